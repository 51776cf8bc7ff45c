/-
  OpenX, OpenP, FileK, PldA, PldB in one text. Nothing here is trusted.
-/
import Derived.Test.YtnmcgmpmcliinaaGreatPart10
import Derived.Test.YtnmcgmpmcliinaaGreatPart39
import Derived.Deep.Strs
import Derived.Test.YtnmcgmpmcliinaaGreatPart15
import Derived.Test.YtnmcgmpmcliinaaGreatPart22
import Derived.Lib.SmallJoins
import Derived.Lib.SlBytesConst
set_option linter.unusedVariables false
namespace Go.Proofs.YtnmcgmpmcliinaaGreat
open Go.ChangeShapes Go.WideShapes Go.RowKit Go.Deep
section
variable {H : Type} {enc : TypeId × Value → H} {W : World}
theorem range_getD {α : Type} (f : Nat → α) (n i : Nat) (d : α) (h : i < n) : ((List.range n).map f).getD i d = f i := by
  simp [List.getD, h]
set_option maxRecDepth 100000 in
theorem ent_open {m : Nat} {cs : List Value} {y : DataW H × List MemPlace} (h : DataW.trod enc Tryz.prog W 0 (fun _ => true) true m 62 cs = some y) :
    ∃ x : Ent, cs = [.string x.name, .int .i64 x.root, .int .i64 x.size] ∧ x.ok := by
  obtain ⟨y0, y1, n, _, hl, h0, h1⟩ := trod_struct2 Tryz.underlying62 h
  have hl3 : cs.length = 3 := hl.trans (by kernel_rfl)
  match cs, hl3 with
  | [c0, c1, c2], _ =>
    have e0 : Tryz.prog.cellsOf 9 = 1 := by kernel_rfl
    have e1 : Tryz.prog.cellsOf 3 = 1 := by kernel_rfl
    have e2 : Tryz.prog.cellsOf 60 = 2 := by kernel_rfl
    simp [e0, e2] at h0 h1
    obtain ⟨s, hs, _, ws⟩ := DataW.trod_string Tryz.underlying9 h0
    obtain ⟨z0, z1, n', _, _, g0, g1⟩ := trod_struct2 Tryz.underlying60 h1
    simp [e1] at g0 g1
    obtain ⟨r, hr, _, wr⟩ := DataW.trod_int Tryz.underlying3 g0
    obtain ⟨z, hz, _, wz⟩ := DataW.trod_int Tryz.underlying3 g1
    simp at hs hr hz
    subst hs hr hz
    have b1 := bounds_i64 wr
    have b2 := bounds_i64 wz
    have b1' : -9223372036854775808 ≤ r ∧ r ≤ 9223372036854775807 := by omega
    have b2' : -9223372036854775808 ≤ z ∧ z ≤ 9223372036854775807 := by omega
    exact ⟨⟨s, r, z⟩, rfl, ws, b1', b2'⟩
set_option maxRecDepth 100000 in
theorem ents_open {m : Nat} {v : Value} {y : DataW H × List MemPlace} (h : DataW.trod enc Tryz.prog W 0 (fun _ => true) true m 44 [v] = some y) :
    ∃ a n c l, v = .slice a n c ∧ n ≤ c ∧ n ≤ maxLen ∧ EntsAt (fun _ => True) W a n l := by
  have e3 : Tryz.prog.cellsOf 62 = 3 := by kernel_rfl
  rcases open_slice Tryz.underlying44 h with ⟨hcs, _⟩ | ⟨a, len, cap, m, n', D, Pl, hcs, _, hl, hm, hmm, _, hx⟩
  · exact ⟨none, 0, 0, [], by simpa using hcs, Nat.le_refl _, Nat.zero_le _, entsAt_nil _ _ _⟩
  · simp at hcs
    subst hcs
    simp only [if_true] at hmm
    subst hmm
    have hone : ∀ i, i < len → ∃ x : Ent, W.cell? (a.add (i * 3)) = some (.string x.name) ∧ W.cell? ((a.add (i * 3)).add 1) = some (.int .i64 x.root) ∧ W.cell? ((a.add (i * 3)).add 2) = some (.int .i64 x.size) ∧ x.ok := by
      intro i hi
      obtain ⟨cs', h1, h2⟩ := hx i (by omega)
      rw [e3] at h1
      obtain ⟨x, rfl, hok⟩ := ent_open h2
      obtain ⟨_, _, hc⟩ := World.cells?_some h1
      have c0 := hc 0 (by omega)
      have c1 := hc 1 (by omega)
      have c2 := hc 2 (by omega)
      have ez : (a.add (i * 3)).add 0 = a.add (i * 3) := add_zero' _
      rw [ez] at c0
      exact ⟨x, c0, c1, c2, hok⟩
    obtain ⟨X, hX⟩ := choose_lt hone
    refine ⟨some a, len, m, (List.range len).map X, rfl, hl, by omega, by simp, fun x hx => ?_, fun hp => ?_⟩
    · obtain ⟨i, hi, rfl⟩ := List.mem_map.1 hx
      exact (hX i (List.mem_range.1 hi)).2.2.2
    · obtain ⟨h0', _⟩ := hX 0 (by omega)
      rw [Nat.zero_mul, add_zero'] at h0'
      have hx0 := addr_none h0'
      obtain ⟨b, off, spot⟩ := a
      simp only [Addr.mk.injEq, true_and] at hx0
      subst hx0
      refine ⟨b, off, rfl, cell_lt h0', trivial, fun i hi => ?_⟩
      obtain ⟨c0, c1, c2, _⟩ := hX i hi
      rw [add_none] at c0 c1 c2
      rw [add_none] at c1 c2
      rw [range_getD _ _ _ _ hi]
      exact ⟨c0, c1, c2⟩
set_option maxRecDepth 100000 in
theorem snap_open {m : Nat} {cs : List Value} {y : DataW H × List MemPlace} (h : DataW.trod enc Tryz.prog W 0 (fun _ => true) true m 89 cs = some y) :
    ∃ (x : SnapE) (fa : Option Addr) (fn fc : Nat), cs = [.string x.name, .slice fa fn fc] ∧ x.name.size ≤ maxLen ∧ fn ≤ fc ∧ EntsAt (fun _ => True) W fa fn x.files := by
  obtain ⟨y0, y1, n, _, hl, h0, h1⟩ := trod_struct2 Tryz.underlying89 h
  have hl2 : cs.length = 2 := hl.trans (by kernel_rfl)
  match cs, hl2 with
  | [c0, c1], _ =>
    have e0 : Tryz.prog.cellsOf 9 = 1 := by kernel_rfl
    have e1 : Tryz.prog.cellsOf 44 = 1 := by kernel_rfl
    simp [e0, e1] at h0 h1
    obtain ⟨s, hs, _, ws⟩ := DataW.trod_string Tryz.underlying9 h0
    obtain ⟨fa, fn, fc, l, rfl, hc, _, hE⟩ := ents_open h1
    simp at hs
    subst hs
    exact ⟨⟨s, l⟩, fa, fn, fc, rfl, ws, hc, hE⟩
set_option maxRecDepth 100000 in
theorem snaps_open {m : Nat} {v : Value} {y : DataW H × List MemPlace} (h : DataW.trod enc Tryz.prog W 0 (fun _ => true) true m 45 [v] = some y) :
    ∃ a n c l, v = .slice a n c ∧ n ≤ c ∧ n ≤ maxLen ∧ SnapsAt (fun _ => True) W a n l := by
  have e3 : Tryz.prog.cellsOf 89 = 2 := by kernel_rfl
  rcases open_slice Tryz.underlying45 h with ⟨hcs, _⟩ | ⟨a, len, cap, m, n', D, Pl, hcs, _, hl, hm, hmm, _, hx⟩
  · exact ⟨none, 0, 0, [], by simpa using hcs, Nat.le_refl _, Nat.zero_le _, snapsAt_nil _ _ _⟩
  · simp at hcs
    subst hcs
    simp only [if_true] at hmm
    subst hmm
    have hone : ∀ i, i < len → ∃ x : SnapE, ∃ fa fn fc, W.cell? (a.add (i * 2)) = some (.string x.name) ∧ W.cell? ((a.add (i * 2)).add 1) = some (.slice fa fn fc) ∧ x.name.size ≤ maxLen ∧ fn ≤ fc ∧ EntsAt (fun _ => True) W fa fn x.files := by
      intro i hi
      obtain ⟨cs', h1, h2⟩ := hx i (by omega)
      rw [e3] at h1
      obtain ⟨x, fa, fn, fc, rfl, hs, hcp, hE⟩ := snap_open h2
      obtain ⟨_, _, hc⟩ := World.cells?_some h1
      have c0 := hc 0 (by omega)
      have c1 := hc 1 (by omega)
      have ez : (a.add (i * 2)).add 0 = a.add (i * 2) := add_zero' _
      rw [ez] at c0
      exact ⟨x, fa, fn, fc, c0, c1, hs, hcp, hE⟩
    obtain ⟨X, hX⟩ := choose_lt hone
    refine ⟨some a, len, m, (List.range len).map X, rfl, hl, by omega, by simp, fun hp => ?_⟩
    obtain ⟨_, _, _, h0', _⟩ := hX 0 (by omega)
    rw [Nat.zero_mul, add_zero'] at h0'
    have hx0 := addr_none h0'
    obtain ⟨b, off, spot⟩ := a
    simp only [Addr.mk.injEq, true_and] at hx0
    subst hx0
    refine ⟨b, off, rfl, cell_lt h0', trivial, fun i hi => ?_⟩
    obtain ⟨fa, fn, fc, c0, c1, hs, hcp, hE⟩ := hX i hi
    rw [add_none] at c0 c1
    rw [add_none] at c1
    rw [range_getD _ _ _ _ hi]
    exact ⟨fa, fn, fc, c0, c1, hE, hs, hcp⟩
set_option maxRecDepth 100000 in
theorem ask_open {m : Nat} {cs : List Value} {y : DataW H × List MemPlace} (h : DataW.trod enc Tryz.prog W 0 (fun _ => true) true m 30 cs = some y) :
    ∃ (x : AskE) (ba : Option Addr) (bn bc : Nat), cs = [.int .i64 x.kind, .string x.set, .string x.file, .string x.to, .int .i64 x.pos, .int .i64 x.num, .slice ba bn bc] ∧ x.ok ∧ bn ≤ bc ∧ NumsAt (fun _ => True) .u8 W ba bn x.bytes := by
  obtain ⟨xs, n, _, rfl, hl, hlen, hf⟩ := DataW.trod_struct Tryz.underlying30 h
  have hl7 : cs.length = 7 := hl.trans (by kernel_rfl)
  match xs, hlen, cs, hl7 with
  | [y0, y1, y2, y3, y4, y5, y6], _, [c0, c1, c2, c3, c4, c5, c6], _ =>
    have e0 : Tryz.prog.cellsOf 9 = 1 := by kernel_rfl
    have e1 : Tryz.prog.cellsOf 3 = 1 := by kernel_rfl
    have e2 : Tryz.prog.cellsOf 28 = 1 := by kernel_rfl
    have h0 := hf 0 _ rfl
    have h1 := hf 1 _ rfl
    have h2 := hf 2 _ rfl
    have h3 := hf 3 _ rfl
    have h4 := hf 4 _ rfl
    have h5 := hf 5 _ rfl
    have h6 := hf 6 _ rfl
    simp [e0, e1, e2] at h0 h1 h2 h3 h4 h5 h6
    obtain ⟨k, hk, _, wk⟩ := DataW.trod_int Tryz.underlying3 h0
    obtain ⟨s1, hs1, _, ws1⟩ := DataW.trod_string Tryz.underlying9 h1
    obtain ⟨s2, hs2, _, ws2⟩ := DataW.trod_string Tryz.underlying9 h2
    obtain ⟨s3, hs3, _, ws3⟩ := DataW.trod_string Tryz.underlying9 h3
    obtain ⟨q, hq, _, wq⟩ := DataW.trod_int Tryz.underlying3 h4
    obtain ⟨u, hu, _, wu⟩ := DataW.trod_int Tryz.underlying3 h5
    obtain ⟨ba, bn, bc, bs, rfl, hb, _, hB⟩ := nums_open Tryz.underlying28 Tryz.underlying5 (by kernel_rfl) h6
    simp at hk hs1 hs2 hs3 hq hu
    subst hk hs1 hs2 hs3 hq hu
    have b1 := bounds_i64 wk
    have b2 := bounds_i64 wq
    have b3 := bounds_i64 wu
    have b1' : -9223372036854775808 ≤ k ∧ k ≤ 9223372036854775807 := by omega
    have b2' : -9223372036854775808 ≤ q ∧ q ≤ 9223372036854775807 := by omega
    have b3' : -9223372036854775808 ≤ u ∧ u ≤ 9223372036854775807 := by omega
    exact ⟨⟨k, s1, s2, s3, q, u, bs⟩, ba, bn, bc, rfl, ⟨⟨ws1, ws2, ws3⟩, b1', b2', b3'⟩, hb, hB⟩
end
end Go.Proofs.YtnmcgmpmcliinaaGreat

namespace Go.Proofs.YtnmcgmpmcliinaaGreat
open Go.ChangeShapes Go.WideShapes Go.RowKit Go.Deep
section
variable {H : Type} {enc : TypeId × Value → H} {W : World}
set_option maxRecDepth 100000 in
theorem store_cells {m : Nat} {c0 : Value} {y : DataW H × List MemPlace} (hf : DataW.trod enc Tryz.prog W 0 (fun _ => true) true m 24 [c0] = some y) :
    ∃ a n c B, c0 = .slice a n c ∧ StoreAt W a n B := by
    obtain ⟨y0, n, _, _, h0⟩ := trod_struct1 Tryz.underlying24 hf
    have e1 : Tryz.prog.cellsOf 22 = 1 := by kernel_rfl
    have e4 : Tryz.prog.cellsOf 93 = 4 := by kernel_rfl
    simp [e1] at h0
    rcases open_slice Tryz.underlying22 h0 with ⟨hcs, _⟩ | ⟨a, len, cap, m, n', D, Pl, hcs, _, hl, hm, hmm, _, hx⟩
    · simp at hcs
      subst hcs
      exact ⟨none, 0, 0, fun _ => Blk.zero, rfl, fun hp => absurd hp (by omega)⟩
    · simp at hcs
      subst hcs
      simp only [if_true] at hmm
      subst hmm
      have hone : ∀ i, i < len → ∃ K : Blk, ∃ ka kn kc ba bn bc, W.cell? (a.add (i * 4)) = some (.int .i64 K.refs) ∧ W.cell? ((a.add (i * 4)).add 1) = some (.int .i64 K.level) ∧ W.cell? ((a.add (i * 4)).add 2) = some (.slice ka kn kc) ∧ W.cell? ((a.add (i * 4)).add 3) = some (.slice ba bn bc) ∧
          NumsAt (fun _ => True) .i64 W ka kn K.kids ∧ NumsAt (fun _ => True) .u8 W ba bn K.bytes ∧ (-9223372036854775808 ≤ K.refs ∧ K.refs ≤ 9223372036854775807) ∧ (-9223372036854775808 ≤ K.level ∧ K.level ≤ 9223372036854775807) ∧ (kn ≤ kc ∧ bn ≤ bc) := by
        intro i hi
        obtain ⟨cs', h1, h2⟩ := hx i (by omega)
        rw [e4] at h1
        obtain ⟨r, lv, ka, kn, kc, ba, bn, bc, ks, bs, rfl, b1, b2, b3, b4, b5⟩ := blk_open h2
        obtain ⟨_, _, hc⟩ := World.cells?_some h1
        have c0 := hc 0 (by omega)
        have c1 := hc 1 (by omega)
        have c2 := hc 2 (by omega)
        have c3 := hc 3 (by omega)
        have ez : (a.add (i * 4)).add 0 = a.add (i * 4) := add_zero' _
        rw [ez] at c0
        exact ⟨⟨r, lv, ks, bs⟩, ka, kn, kc, ba, bn, bc, c0, c1, c2, c3, b4, b5, b1, b2, b3⟩
      have : Inhabited Blk := ⟨Blk.zero⟩
      obtain ⟨B, hB⟩ := choose_lt hone
      refine ⟨some a, len, m, B, rfl, fun hp => ?_⟩
      obtain ⟨_, _, _, _, _, _, h0', _⟩ := hB 0 (by omega)
      rw [Nat.zero_mul, add_zero'] at h0'
      have hx0 := addr_none h0'
      obtain ⟨b, off, spot⟩ := a
      simp only [Addr.mk.injEq, true_and] at hx0
      subst hx0
      refine ⟨b, off, rfl, cell_lt h0', fun i hi => ?_⟩
      obtain ⟨ka, kn, kc, ba, bn, bc, c0, c1, c2, c3, k1, k2, k3, k4, k5⟩ := hB i hi
      rw [add_none] at c0 c1 c2 c3
      rw [add_none] at c1 c2 c3
      exact ⟨ka, kn, kc, ba, bn, bc, c0, c1, c2, c3, k1, k2, k3, k4, k5⟩
set_option maxRecDepth 100000 in
theorem set_cells {m : Nat} {cs : List Value} {y : DataW H × List MemPlace} (h : DataW.trod enc Tryz.prog W 0 (fun _ => true) true m 47 cs = some y) :
    ∃ (x : SetE) (V : SetV), cs = [.string V.name, .slice V.fa V.fn V.fc, .slice V.sa V.sn V.sc] ∧ SetAt (fun _ => True) W V x := by
  obtain ⟨y0, y1, y2, n, _, hl, h0, h1, h2⟩ := trod_struct3 Tryz.underlying47 h
  have hl3 : cs.length = 3 := hl.trans (by kernel_rfl)
  match cs, hl3 with
  | [c0, c1, c2], _ =>
    have e0 : Tryz.prog.cellsOf 9 = 1 := by kernel_rfl
    have e1 : Tryz.prog.cellsOf 44 = 1 := by kernel_rfl
    have e2 : Tryz.prog.cellsOf 45 = 1 := by kernel_rfl
    simp [e0, e1, e2] at h0 h1 h2
    obtain ⟨s, hs, _, ws⟩ := DataW.trod_string Tryz.underlying9 h0
    obtain ⟨fa, fn, fc, fl, rfl, hfc, hfm, hE⟩ := ents_open h1
    obtain ⟨sa, sn, sc, sl, rfl, hsc, hsm, hS⟩ := snaps_open h2
    simp at hs
    subst hs
    exact ⟨⟨s, fl, sl⟩, ⟨s, fa, fn, fc, sa, sn, sc⟩, rfl, ⟨rfl, ws, hE, hS, hfc, hsc⟩⟩
set_option maxRecDepth 100000 in
theorem sets_open {m : Nat} {v : Value} {y : DataW H × List MemPlace} (h : DataW.trod enc Tryz.prog W 0 (fun _ => true) true m 40 [v] = some y) :
    ∃ a n c l, v = .slice a n c ∧ n ≤ c ∧ SetsAt (fun _ => True) W a n l := by
  have e3 : Tryz.prog.cellsOf 47 = 3 := by kernel_rfl
  rcases open_slice Tryz.underlying40 h with ⟨hcs, _⟩ | ⟨a, len, cap, m, n', D, Pl, hcs, _, hl, hm, hmm, _, hx⟩
  · exact ⟨none, 0, 0, [], by simpa using hcs, Nat.le_refl _, setsAt_nil _ _ _⟩
  · simp at hcs
    subst hcs
    simp only [if_true] at hmm
    subst hmm
    have hone : ∀ i, i < len → ∃ x : SetE, ∃ V : SetV, W.cell? (a.add (i * 3)) = some (.string V.name) ∧ W.cell? ((a.add (i * 3)).add 1) = some (.slice V.fa V.fn V.fc) ∧ W.cell? ((a.add (i * 3)).add 2) = some (.slice V.sa V.sn V.sc) ∧ SetAt (fun _ => True) W V x := by
      intro i hi
      obtain ⟨cs', h1, h2⟩ := hx i (by omega)
      rw [e3] at h1
      obtain ⟨x, V, rfl, hX⟩ := set_cells h2
      obtain ⟨_, _, hc⟩ := World.cells?_some h1
      have c0 := hc 0 (by omega)
      have c1 := hc 1 (by omega)
      have c2 := hc 2 (by omega)
      have ez : (a.add (i * 3)).add 0 = a.add (i * 3) := add_zero' _
      rw [ez] at c0
      exact ⟨x, V, c0, c1, c2, hX⟩
    obtain ⟨X, hX⟩ := choose_lt hone
    refine ⟨some a, len, m, (List.range len).map X, rfl, hl, by simp, fun hp => ?_⟩
    obtain ⟨_, h0', _⟩ := hX 0 (by omega)
    rw [Nat.zero_mul, add_zero'] at h0'
    have hx0 := addr_none h0'
    obtain ⟨b, off, spot⟩ := a
    simp only [Addr.mk.injEq, true_and] at hx0
    subst hx0
    refine ⟨b, off, rfl, cell_lt h0', trivial, fun i hi => ?_⟩
    obtain ⟨V, c0, c1, c2, hS⟩ := hX i hi
    rw [add_none] at c0 c1 c2
    rw [add_none] at c1 c2
    rw [range_getD _ _ _ _ hi]
    exact ⟨V, c0, c1, c2, hS⟩
set_option maxRecDepth 100000 in
theorem ten_cells {m : Nat} {cs : List Value} {y : DataW H × List MemPlace} (h : DataW.trod enc Tryz.prog W 0 (fun _ => true) true m 42 cs = some y) :
    ∃ (t : TenE) (sa : Option Addr) (sn sc : Nat), cs = [.int .i64 t.key, .int .i64 t.quota, .slice sa sn sc] ∧ TenAt (fun _ => True) W t sa sn sc := by
  obtain ⟨y0, y1, y2, n, _, hl, h0, h1, h2⟩ := trod_struct3 Tryz.underlying42 h
  have hl3 : cs.length = 3 := hl.trans (by kernel_rfl)
  match cs, hl3 with
  | [c0, c1, c2], _ =>
    have e0 : Tryz.prog.cellsOf 3 = 1 := by kernel_rfl
    have e2 : Tryz.prog.cellsOf 40 = 1 := by kernel_rfl
    simp [e0, e2] at h0 h1 h2
    obtain ⟨k, hk, _, wk⟩ := DataW.trod_int Tryz.underlying3 h0
    obtain ⟨q, hq, _, wq⟩ := DataW.trod_int Tryz.underlying3 h1
    obtain ⟨sa, sn, sc, sl, rfl, hsc, hS⟩ := sets_open h2
    simp at hk hq
    subst hk hq
    have b1 := bounds_i64 wk
    have b2 := bounds_i64 wq
    exact ⟨⟨k, q, sl⟩, sa, sn, sc, rfl, ⟨hS, by simp only; omega, by simp only; omega, hsc⟩⟩
set_option maxRecDepth 100000 in
theorem tens_open {m : Nat} {v : Value} {y : DataW H × List MemPlace} (h : DataW.trod enc Tryz.prog W 0 (fun _ => true) true m 25 [v] = some y) :
    ∃ a n c l, v = .slice a n c ∧ n ≤ c ∧ TensAt (fun _ => True) W a n l := by
  have e3 : Tryz.prog.cellsOf 42 = 3 := by kernel_rfl
  rcases open_slice Tryz.underlying25 h with ⟨hcs, _⟩ | ⟨a, len, cap, m, n', D, Pl, hcs, _, hl, hm, hmm, _, hx⟩
  · exact ⟨none, 0, 0, [], by simpa using hcs, Nat.le_refl _, tensAt_nil _ _ _⟩
  · simp at hcs
    subst hcs
    simp only [if_true] at hmm
    subst hmm
    have hone : ∀ i, i < len → ∃ t : TenE, ∃ sa sn sc, W.cell? (a.add (i * 3)) = some (.int .i64 t.key) ∧ W.cell? ((a.add (i * 3)).add 1) = some (.int .i64 t.quota) ∧ W.cell? ((a.add (i * 3)).add 2) = some (.slice sa sn sc) ∧ TenAt (fun _ => True) W t sa sn sc := by
      intro i hi
      obtain ⟨cs', h1, h2⟩ := hx i (by omega)
      rw [e3] at h1
      obtain ⟨t, sa, sn, sc, rfl, hT⟩ := ten_cells h2
      obtain ⟨_, _, hc⟩ := World.cells?_some h1
      have c0 := hc 0 (by omega)
      have c1 := hc 1 (by omega)
      have c2 := hc 2 (by omega)
      have ez : (a.add (i * 3)).add 0 = a.add (i * 3) := add_zero' _
      rw [ez] at c0
      exact ⟨t, sa, sn, sc, c0, c1, c2, hT⟩
    obtain ⟨X, hX⟩ := choose_lt hone
    refine ⟨some a, len, m, (List.range len).map X, rfl, hl, by simp, fun hp => ?_⟩
    obtain ⟨_, _, _, h0', _⟩ := hX 0 (by omega)
    rw [Nat.zero_mul, add_zero'] at h0'
    have hx0 := addr_none h0'
    obtain ⟨b, off, spot⟩ := a
    simp only [Addr.mk.injEq, true_and] at hx0
    subst hx0
    refine ⟨b, off, rfl, cell_lt h0', trivial, fun i hi => ?_⟩
    obtain ⟨sa, sn, sc, c0, c1, c2, hT⟩ := hX i hi
    rw [add_none] at c0 c1 c2
    rw [add_none] at c1 c2
    rw [range_getD _ _ _ _ hi]
    exact ⟨sa, sn, sc, c0, c1, c2, hT⟩
set_option maxRecDepth 100000 in
theorem pool_open {r : Reach} {b0 : Nat} {v : Value} {d : DataW H} {p : List MemPlace} (hv : Value.okWide Tryz.prog W r b0 27 v) (h : DataW.Trod enc Tryz.prog W 0 (fun _ => true) true 27 v d p) :
    ∃ a n c B ta tn tc l, v = .agg #[.slice a n c, .slice ta tn tc] ∧ PoolAt (fun _ => True) W a n B ta tn l := by
  obtain ⟨cs, rfl, hsz⟩ := okWide_struct Tryz.underlying27 hv
  have hsz2 : cs.size = 2 := hsz.trans (by kernel_rfl)
  obtain ⟨l⟩ := cs
  match l, hsz2 with
  | [c0, c1], _ =>
    obtain ⟨fuel, hf⟩ := h
    obtain ⟨y0, y1, n, _, _, h0, h1⟩ := trod_struct2 Tryz.underlying27 hf
    have e0 : Tryz.prog.cellsOf 24 = 1 := by kernel_rfl
    have e1 : Tryz.prog.cellsOf 25 = 1 := by kernel_rfl
    simp [Value.cells, e0, e1] at h0 h1
    obtain ⟨a, n, c, B, rfl, hS⟩ := store_cells h0
    obtain ⟨ta, tn, tc, tl, rfl, _, hT⟩ := tens_open h1
    exact ⟨a, n, c, B, ta, tn, tc, tl, rfl, hS, hT⟩
end
end Go.Proofs.YtnmcgmpmcliinaaGreat

namespace Go.Proofs.YtnmcgmpmcliinaaGreat
open Go.RowKit
def N1 : List Int := overL ((zeros 256).take 0) 2 [97, 98, 99]
def N2 : List Int := overL ((padTo N1).take 5) 4 [120, 121]
theorem NumsAt.out {Q : Nat → Prop} {k : IntKind} {w w' : World} {a : Option Addr} {n q : Nat} {l : List Int} (h : NumsAt Q k w a n l) (hq : ∀ b, Q b → b ≠ q) (ho : Out q w w') : NumsAt Q k w' a n l := by
  refine ⟨h.1, h.2.1, fun hn => ?_⟩
  obtain ⟨b, off, rfl, hlt, qb, hc⟩ := h.2.2 hn
  exact ⟨b, off, rfl, Nat.lt_of_lt_of_le hlt ho.size, qb, fun i hi => (ho.cell (p := ⟨b, off + i, none⟩) hlt (hq b qb)).trans (hc i hi)⟩
theorem Own.out {w w' : World} {g n q : Nat} {B : Nat → Blk} (h : Own w g n B) (hq : q < g) (ho : Out q w w') : Own w' g n B := by
  have hlt := h.lt
  refine ⟨Nat.lt_of_lt_of_le h.lt ho.size, fun i hi => ?_, fun i hi => ?_⟩
  · obtain ⟨ka, kn, kc, ba, bn, bc, b⟩ := h.blocks i hi
    exact ⟨ka, kn, kc, ba, bn, bc, (ho.cell (p := ⟨g, _, none⟩) hlt (by show g ≠ q; omega)).trans b.c0, (ho.cell (p := ⟨g, _, none⟩) hlt (by show g ≠ q; omega)).trans b.c1, (ho.cell (p := ⟨g, _, none⟩) hlt (by show g ≠ q; omega)).trans b.c2, (ho.cell (p := ⟨g, _, none⟩) hlt (by show g ≠ q; omega)).trans b.c3, b.kids.out (fun _ h => by omega) ho, b.bytes.out (fun _ h => by omega) ho, b.refs, b.level, b.caps⟩
  · have e : w'.frozen? ⟨g, i, none⟩ = w.frozen? ⟨g, i, none⟩ := World.frozen?_of_block (w := w) (ho.block g hlt (by omega))
    exact e.trans (h.free i hi)
theorem CellsAt.out {w w' : World} {g q : Nat} {cs : Array Value} {t : TypeId} (h : CellsAt w g cs t) (hq : g ≠ q) (ho : Out q w w') : CellsAt w' g cs t := by
  unfold CellsAt
  rw [ho.block g h.lt hq]
  exact h
theorem lit_mark (w : World) (xs : List Int) (t : TypeId) (fr : Nat × Nat) (hw : ∀ x ∈ xs, (Lit.int .u8 x).wf = true) : NumsAt (fun _ => True) .u8 (w.alloc (.cells (xs.map (Value.int .u8)).toArray t fr)) (some ⟨w.heap.size, 0, none⟩) xs.length xs := by
  refine ⟨rfl, hw, fun _ => ⟨w.heap.size, 0, rfl, by simp, trivial, fun i hi => ?_⟩⟩
  rw [Nat.zero_add, World.cell?_alloc_mark]
  simp [List.getD, hi]
end Go.Proofs.YtnmcgmpmcliinaaGreat

namespace Go.Proofs.YtnmcgmpmcliinaaGreat
open Go.RowKit
theorem sub_len : ∀ (M L : List Int), M.Nodup → (∀ x ∈ M, x ∈ L) → M.length ≤ L.length
  | [], _, _, _ => Nat.zero_le _
  | a :: M, L, hn, h => by
    have ha := h a (by simp)
    have hn' := List.nodup_cons.1 hn
    have h1 := sub_len M (L.erase a) hn'.2 (fun x hx => (List.mem_erase_of_ne (fun (e : x = a) => hn'.1 (e ▸ hx))).2 (h x (by simp [hx])))
    rw [List.length_erase_of_mem ha] at h1
    have h2 := List.length_pos_of_mem ha
    simp only [List.length_cons]
    omega
def usedL (D : Nat → Blk) : Nat → List Int
  | 0 => []
  | k + 1 => if 0 < (D k).refs then ((k : Int) + 1) :: usedL D k else usedL D k
theorem usedL_len (D : Nat → Blk) : ∀ n, (usedL D n).length = usedTo D n
  | 0 => rfl
  | n + 1 => by
    have h1 := usedL_len D n
    rw [usedTo_succ, ← h1]
    rw [usedL]
    split <;> simp
theorem mem_usedL (D : Nat → Blk) : ∀ (n k : Nat), k < n → 0 < (D k).refs → ((k : Int) + 1) ∈ usedL D n
  | 0, k, h, _ => absurd h (by omega)
  | n + 1, k, h, h0 => by
    unfold usedL
    by_cases e : k = n
    · subst e
      rw [if_pos h0]
      simp
    · have := mem_usedL D n k (by omega) h0
      split
      · exact List.mem_cons_of_mem _ this
      · exact this
theorem there_pos {n : Nat} {D : Nat → Blk} (hR : Right n D) {x : Int} (h : There n D x) : ∃ k : Nat, k < n ∧ x = (k : Int) + 1 ∧ 0 < (D k).refs := by
  obtain ⟨h1, h2, h3⟩ := h
  refine ⟨(x - 1).toNat, by omega, by omega, ?_⟩
  have := hR.held (x - 1).toNat (by omega)
  omega
theorem uses_most {n : Nat} {D : Nat → Blk} {R : List Int} {q : Int} (hR : Right n D) (hr : RootsOk n D R) (h : Uses D R q) : q ≤ (usedTo D n : Int) := by
  obtain ⟨L, l1, l2, rfl⟩ := h
  have hn : L.Nodup := l1.imp (fun h => by omega)
  have := sub_len L (usedL D n) hn (fun x hx => by
    obtain ⟨k, h1, rfl, h2⟩ := there_pos hR (Clo.there hR hr ((l2 x).1 hx))
    exact mem_usedL D n k h1 h2)
  rw [usedL_len] at this
  omega
theorem uses_ge {n : Nat} {D : Nat → Blk} {R : List Int} {q r : Int} (hR : Right n D) (h : Uses D R q) (hrR : r ∈ R) (hr : Root n D 3 r) (h0 : leafAt D 3 r 0 ≠ []) (h2 : leafAt D 3 r 2 ≠ []) (hne : leafAt D 3 r 0 ≠ leafAt D 3 r 2) : 5 ≤ q := by
  obtain ⟨L, l1, l2, rfl⟩ := h
  have e0 : leafAt D 3 r 0 = bytesL D ((kidsL D ((kidsL D ((kidsL D r).getD 0 0)).getD 0 0)).getD 0 0) := by
    simp only [leafAt, pw]
  have e2 : leafAt D 3 r 2 = bytesL D ((kidsL D ((kidsL D ((kidsL D r).getD 0 0)).getD 0 0)).getD 2 0) := by
    simp only [leafAt, pw]
  rw [e0] at h0 hne
  rw [e2] at h2 hne
  generalize hb : (kidsL D r).getD 0 0 = b at *
  generalize hc : (kidsL D b).getD 0 0 = c at *
  generalize hd : (kidsL D c).getD 0 0 = d at *
  generalize he : (kidsL D c).getD 2 0 = e at *
  have d0 : d ≠ 0 := fun f => by rw [f] at h0; exact h0 (by simp [bytesL])
  have f0 : e ≠ 0 := fun f => by rw [f] at h2; exact h2 (by simp [bytesL])
  have c0 : c ≠ 0 := fun f => by rw [f, kidsL_zero] at hd; exact d0 hd.symm
  have b0 : b ≠ 0 := fun f => by rw [f, kidsL_zero] at hc; exact c0 hc.symm
  have r0 : r ≠ 0 := fun f => by rw [f, kidsL_zero] at hb; exact b0 hb.symm
  have hde : d ≠ e := fun f => hne (by rw [f])
  have step : ∀ (x y : Int) (i : Nat), x ≠ 0 → There n D x → (kidsL D x).getD i 0 = y → y ≠ 0 → y ∈ (D (x - 1).toNat).kids ∧ There n D y ∧ (D (y - 1).toNat).level = (D (x - 1).toNat).level - 1 := by
    intro x y i hx0 hx hy hy0
    unfold kidsL at hy
    rw [if_neg hx0] at hy
    have hm : y ∈ (D (x - 1).toNat).kids := by
      rw [List.getD_eq_getElem?_getD] at hy
      cases hg : (D (x - 1).toNat).kids[i]? with
      | none => rw [hg] at hy; exact absurd hy.symm hy0
      | some z => rw [hg] at hy; obtain rfl : z = y := hy; exact List.mem_of_getElem? hg
    have := (hR.one (x - 1).toNat (by have := hx.1; have := hx.2.1; omega)).kids y hm
    rcases this with f | ⟨f1, f2⟩
    · exact absurd f hy0
    · exact ⟨hm, f1, f2⟩
  rcases hr with f | ⟨tr, lr⟩
  · exact absurd f r0
  obtain ⟨mb, tb, lb⟩ := step r b 0 r0 tr hb b0
  obtain ⟨mc, tc, lc⟩ := step b c 0 b0 tb hc c0
  obtain ⟨md, td, ld⟩ := step c d 0 c0 tc hd d0
  obtain ⟨me, te, le⟩ := step c e 2 c0 tc he f0
  have cr : Clo D R r := Clo.root hrR r0
  have cb := cr.kid mb b0
  have cc := cb.kid mc c0
  have cd := cc.kid md d0
  have ce := cc.kid me f0
  have := sub_len [r, b, c, d, e] L (by
    simp only [List.nodup_cons, List.mem_cons, List.not_mem_nil, or_false, not_or, List.nodup_nil, and_true, not_false_eq_true]
    refine ⟨⟨?_, ?_, ?_, ?_⟩, ⟨?_, ?_, ?_⟩, ⟨?_, ?_⟩, hde⟩ <;> (intro f; subst f; omega)) (fun x hx => by
    simp only [List.mem_cons, List.not_mem_nil, or_false] at hx
    rcases hx with rfl | rfl | rfl | rfl | rfl
    · exact (l2 _).2 cr
    · exact (l2 _).2 cb
    · exact (l2 _).2 cc
    · exact (l2 _).2 cd
    · exact (l2 _).2 ce)
  simp only [List.length_cons, List.length_nil] at this
  omega
theorem usedTo_mono {C D : Nat → Blk} : ∀ {n : Nat}, (∀ i, i < n → 0 < (D i).refs → 0 < (C i).refs) → usedTo D n ≤ usedTo C n
  | 0, _ => Nat.le_refl _
  | n + 1, h => by
    have h1 := usedTo_mono (n := n) (fun i hi => h i (by omega))
    have h2 := h n (by omega)
    rw [usedTo_succ, usedTo_succ]
    split <;> split <;> first | omega | (rename_i f g; exact absurd (h2 f) g)
theorem usedTo_zero : ∀ n, usedTo (fun _ => Blk.zero) n = 0
  | 0 => rfl
  | n + 1 => by rw [usedTo_succ, usedTo_zero n]; rfl
theorem did_wrote {n : Nat} {B D : Nat → Blk} {key : Int} {x y : SetE} {a : AskE} {cc : Int} (hx : SetOk n B key x) (hh : HeldR n B (rootsX x)) (hb : Bytes a.bytes) (hc : ∀ k, k < n → (B k).refs ≤ cc) (hcc : cc + moreOf a + 24 ≤ 1000000) (h : Did n B key x a cc D y) (hk : a.kind = 3) :
    ∃ (root size made : Int) (C : Nat → Blk), Turning x a.file root size made ((overN key B a root size).length : Int) y ∧ TurnAt n B C key root (fileL key (leafAt B 3 root)) (padTo (overN key B a root size)) 64 made cc ∧ Right n D ∧ usedTo D n ≤ usedTo C n ∧ (∀ e ∈ entsX y, fileL key (leafAt D 3 e.root) = fileL key (leafAt C 3 e.root)) ∧ SetOk n D key y ∧ fileL key (leafAt C 3 made) = padTo (overN key B a root size) := by
  obtain ⟨C, made, hY, hD, hF⟩ := h
  have hch := hY.chg hx hb hc
  have hdone := hch.done hx hh hcc hD hF
  rcases hY with ⟨_, hn, ho, root, size, hok, hT, ht⟩ | ⟨f, _⟩ | ⟨f, _, _⟩
  · have hN := over_bytes (key := key) (B := B) hb ho root size
    refine ⟨root, size, made, C, ht, hT, hD, usedTo_mono (fun i hi h0 => ?_), hdone.2.1, hdone.1.ok, (hT.file hok hN.1 hN.2).2.1⟩
    rcases hF.same i hi with f | ⟨r1, r2, _⟩
    · rw [f] at h0; exact absurd h0 (by simp [Blk.zero])
    · rw [moreB_refs] at r2
      have hge := hT.turned.right.held i hi
      by_cases e : 0 < (C i).refs
      · exact e
      · have hpos : 0 < (rootsX y).count ((i : Int) + 1) := by omega
        rcases hch.there _ (List.count_pos_iff.1 hpos) with g | g
        · omega
        · have := g.2.2
          have e' : ((i : Int) + 1 - 1).toNat = i := by omega
          rw [e'] at this
          omega
  · omega
  · rcases f with ⟨f, _⟩ | ⟨f, _⟩ | ⟨f, _⟩ | ⟨f, _⟩ | ⟨f, _⟩ <;> omega
end Go.Proofs.YtnmcgmpmcliinaaGreat

namespace Go.Proofs.YtnmcgmpmcliinaaGreat
open Go.RowKit
def nA : ByteArray := ⟨#[97]⟩
def nF : ByteArray := ⟨#[102]⟩
def ask1 : AskE := ⟨1, nA, ⟨#[]⟩, ⟨#[]⟩, 0, 0, []⟩
def ask2 : AskE := ⟨3, nA, nF, ⟨#[]⟩, 0, 0, [104, 101, 121]⟩
def ask3 : AskE := ⟨3, nA, nF, ⟨#[]⟩, 9, 0, [120]⟩
def ask4 : AskE := ⟨11, nA, nF, ⟨#[]⟩, 0, 9, []⟩
def B0 : Nat → Blk := fun _ => Blk.zero
def hey : List Int := [104, 101, 121]
theorem isName_A : IsName nA := by
  refine ⟨by decide, by decide, fun c hc => ?_⟩
  have : c = 97 := by simpa [nA] using hc
  subst this
  exact .inl (by decide)
theorem isName_F : IsName nF := by
  refine ⟨by decide, by decide, fun c hc => ?_⟩
  have : c = 102 := by simpa [nF] using hc
  subst this
  exact .inl (by decide)
theorem usedB0 : usedTo B0 110 = 0 := by
  unfold B0
  exact usedTo_zero 110
theorem leafAt_B0 (i : Nat) : leafAt B0 3 0 i = [] := by
  have z : ∀ j, ([0, 0, 0, 0] : List Int).getD j 0 = 0 := fun j => by
    match j with
    | 0 => rfl
    | 1 => rfl
    | 2 => rfl
    | 3 => rfl
    | j + 4 => simp
  simp only [leafAt, kidsL_zero, z]
  simp [bytesL]
theorem leafAt_B0' : leafAt B0 3 0 = fun _ => [] := funext leafAt_B0
theorem pover2 : overN 1 B0 ask2 0 0 = hey := by
  unfold overN
  rw [leafAt_B0']
  decide +kernel
theorem pchg2 : chg (fileL 1 (leafAt B0 3 0)) (padTo (overN 1 B0 ask2 0 0)) 64 = 1 := by
  rw [pover2, leafAt_B0']
  decide +kernel
def hey10 : List Int := [104, 101, 121, 0, 0, 0, 0, 0, 0, 120]
theorem pover3 {D : Nat → Blk} {r : Int} (h : fileL 1 (leafAt D 3 r) = padTo hey) : overN 1 D ask3 r 3 = hey10 := by
  unfold overN
  rw [h]
  decide +kernel
theorem pchg3 {D : Nat → Blk} {r : Int} (h : fileL 1 (leafAt D 3 r) = padTo hey) : chg (fileL 1 (leafAt D 3 r)) (padTo (overN 1 D ask3 r 3)) 64 = 1 := by
  rw [pover3 h, h]
  decide +kernel
theorem differ {s : List Int} (h0 : plain 1 0 s = [104, 101, 121, 0]) (h2 : plain 1 2 s = [0, 120, 0, 0]) : False := by
  unfold plain at h0 h2
  by_cases e : s = []
  · rw [if_pos e] at h0
    exact absurd h0 (by decide)
  rw [if_neg e] at h0 h2
  have hl : s.length = 4 := by
    have := congrArg List.length h0
    rw [openL_length] at this
    exact this
  have g0 := congrArg (fun l => l.getD 0 0) h0
  have g2 := congrArg (fun l => l.getD 0 0) h2
  unfold openL at g0 g2
  rw [mixed_getD _ _ _ _ _ (by omega)] at g0 g2
  unfold mixAt sub8 at g0 g2
  have k0 : outb (xk (start 1 (sealPlace 0)) (0 + 1)) = 89 := by decide +kernel
  have k2 : outb (xk (start 1 (sealPlace 2)) (0 + 1)) = 88 := by decide +kernel
  rw [k0] at g0
  rw [k2] at g2
  have r0 : ([104, 101, 121, 0] : List Int).getD 0 0 = 104 := rfl
  have r2 : ([0, 120, 0, 0] : List Int).getD 0 0 = 0 := rfl
  rw [r0] at g0
  rw [r2] at g2
  omega
abbrev x0 : SetE := ⟨nA, [], []⟩
abbrev x1 (r : Int) : SetE := ⟨nA, [⟨nF, r, 3⟩], []⟩
abbrev l0 : List TenE := [⟨1, 4, []⟩, ⟨2, 10, []⟩]
abbrev l1 : List TenE := [⟨1, 4, [x0]⟩, ⟨2, 10, []⟩]
abbrev l2 (r : Int) : List TenE := [⟨1, 4, [x1 r]⟩, ⟨2, 10, []⟩]
theorem st1 {D : Nat → Blk} {m : List TenE} {e N : Int} (h : DoCase 110 B0 l0 0 ⟨1, 4, []⟩ ask1 D m e N) : e = 0 ∧ D = B0 ∧ m = l1 := by
  have hk : ask1.kind = 1 := rfl
  cases h with
  | noadd _ _ _ h3 =>
    rcases h3 with ⟨_, f⟩ | ⟨_, _, x, hx, _⟩ | ⟨_, _, _, f⟩
    · exact absurd isName_A f
    · cases hx
    · cases f
  | add p h1 h2 h3 h4 =>
    refine ⟨rfl, rfl, ?_⟩
    simp [ask1]
  | uses _ h1 => rw [hk] at h1; omega
  | missing h1 => exact absurd hk h1
  | look _ _ _ _ _ _ h1 => rw [hk] at h1; omega
  | destroy _ _ _ _ _ h1 => rw [hk] at h1; omega
  | noclone _ _ _ _ _ h1 => rw [hk] at h1; omega
  | clone _ _ _ _ _ _ _ h1 => rw [hk] at h1; omega
  | nochange _ _ _ _ _ h1 => exact absurd hk h1.1
  | change _ _ _ _ _ _ _ h1 => exact absurd hk h1.1
theorem one_get {α : Type} {x y : α} {k : Nat} (h : [x][k]? = some y) : k = 0 ∧ y = x := by
  match k with
  | 0 => simp at h; exact ⟨rfl, h.symm⟩
  | k + 1 => simp at h
theorem bytes_2 : Bytes ask2.bytes := fun x hx => by
  simp only [ask2, List.mem_cons, List.not_mem_nil, or_false] at hx
  omega
theorem bytes_3 : Bytes ask3.bytes := fun x hx => by
  simp only [ask3, List.mem_cons, List.not_mem_nil, or_false] at hx
  omega
theorem roots_one {n : Nat} {D : Nat → Blk} {key : Int} {y : SetE} (h : SetOk n D key y) : RootsOk n D (rootsL [y]) := fun r hr => by
  have : r ∈ rootsX y := by simpa [rootsL] using hr
  exact h.thereX r this
theorem wrote2 {D : Nat → Blk} {y : SetE} (hok : PoolOk 110 B0 l1) (h : Did 110 B0 1 x0 ask2 2000 D y) : Right 110 D ∧ SetOk 110 D 1 y ∧ usedTo D 110 ≤ 4 ∧ ∃ r, y = x1 r ∧ fileL 1 (leafAt D 3 r) = padTo hey := by
  have hx : SetOk 110 B0 1 x0 := (hok.heldX (i := 0) (t := ⟨1, 4, [x0]⟩) (x := x0) rfl (by simp)).1
  have hh := (hok.heldX (i := 0) (t := ⟨1, 4, [x0]⟩) (x := x0) rfl (by simp)).2.1
  obtain ⟨root, size, made, C, ⟨p, ht⟩, hT, hD, hu, hf, hy, hm⟩ := did_wrote hx hh bytes_2 hok.refs (more_le ask2) h rfl
  rcases ht with ⟨hp, _⟩ | ⟨_, rfl, rfl, _, _, _, ey⟩
  · exact absurd hp (by simp)
  have hT' := hT.used
  rw [pchg2, usedB0] at hT'
  rw [pover2] at ey hm
  have ey' : y = x1 made := by rw [ey]; simp [ask2, hey]
  refine ⟨hD, hy, by omega, made, ey', ?_⟩
  rw [hf ⟨nF, made, 3⟩ (by rw [ey']; simp [entsX])]
  exact hm
theorem st2 {D : Nat → Blk} {m : List TenE} {e N : Int} (hok : PoolOk 110 B0 l1) (h : DoCase 110 B0 l1 0 ⟨1, 4, [x0]⟩ ask2 D m e N) : e = 0 ∧ usedTo D 110 ≤ 4 ∧ ∃ r, m = l2 r ∧ fileL 1 (leafAt D 3 r) = padTo hey := by
  have hk : ask2.kind = 3 := rfl
  cases h with
  | noadd _ h1 => rw [hk] at h1; omega
  | add _ h1 => rw [hk] at h1; omega
  | uses _ h1 => rw [hk] at h1; omega
  | missing _ _ h1 => exact absurd ⟨x0, by simp, rfl⟩ h1
  | look _ _ _ _ _ _ h1 => rw [hk] at h1; omega
  | destroy _ _ _ _ _ h1 => rw [hk] at h1; omega
  | noclone _ _ _ _ _ h1 => rw [hk] at h1; omega
  | clone _ _ _ _ _ _ _ h1 => rw [hk] at h1; omega
  | nochange k x e1 h1 h2 h3 h4 h5 =>
    exfalso
    obtain ⟨rfl, rfl⟩ := one_get h1
    rcases h5 with f | ⟨_, D, y, q, hd, hu, hq⟩
    · have f' : ChgNo 110 B0 1 x0 ask2 := f
      obtain ⟨root, size, hn, hlt⟩ := f'.1 rfl isName_F ⟨by decide, by decide⟩ (.inr (by decide))
      rcases hn with ⟨f, hf, _⟩ | ⟨_, rfl, rfl⟩
      · cases hf
      · rw [pchg2, usedB0] at hlt
        omega
    · obtain ⟨hD, hy, h4', _⟩ := wrote2 hok hd
      have := uses_most hD (roots_one hy) hu
      have hq' : (4 : Int) < q := hq
      omega
  | change k x D y q h1 h2 h3 h4 h5 h6 =>
    obtain ⟨rfl, rfl⟩ := one_get h1
    obtain ⟨hD, hy, h4', r, rfl, hr⟩ := wrote2 hok h4
    exact ⟨rfl, h4', r, rfl, hr⟩
theorem st3 {D D' : Nat → Blk} {m : List TenE} {e N r : Int} (hok : PoolOk 110 D (l2 r)) (hr : fileL 1 (leafAt D 3 r) = padTo hey) (hu4 : usedTo D 110 ≤ 4) (h : DoCase 110 D (l2 r) 0 ⟨1, 4, [x1 r]⟩ ask3 D' m e N) : e = 8 ∧ D' = D ∧ m = l2 r := by
  have hk : ask3.kind = 3 := rfl
  cases h with
  | noadd _ h1 => rw [hk] at h1; omega
  | add _ h1 => rw [hk] at h1; omega
  | uses _ h1 => rw [hk] at h1; omega
  | missing _ _ h1 => exact absurd ⟨x1 r, by simp, rfl⟩ h1
  | look _ _ _ _ _ _ h1 => rw [hk] at h1; omega
  | destroy _ _ _ _ _ h1 => rw [hk] at h1; omega
  | noclone _ _ _ _ _ h1 => rw [hk] at h1; omega
  | clone _ _ _ _ _ _ _ h1 => rw [hk] at h1; omega
  | nochange k x e1 h1 h2 h3 h4 h5 =>
    obtain ⟨rfl, rfl⟩ := one_get h1
    rcases h5 with f | ⟨f, _⟩
    · exfalso
      obtain ⟨root, size, hn, hlt⟩ := f.1 rfl isName_F ⟨by decide, by decide⟩ (.inr (by simp))
      rcases hn with ⟨f, hf, _, rfl, rfl⟩ | ⟨f, _⟩
      · obtain rfl : f = ⟨nF, r, 3⟩ := by simpa using hf
        rw [pchg3 hr] at hlt
        omega
      · exact f ⟨⟨nF, r, 3⟩, by simp, rfl⟩
    · exact ⟨f, rfl, rfl⟩
  | change k x D' y q h1 h2 h3 h4 h5 h6 =>
    exfalso
    obtain ⟨rfl, rfl⟩ := one_get h1
    obtain ⟨hx, hh, _⟩ := hok.heldX (i := 0) (t := ⟨1, 4, [x1 r]⟩) (x := x1 r) rfl (by simp)
    obtain ⟨root, size, made, C, ⟨p, ht⟩, hT, hD, hu, hf, hy, hm⟩ := did_wrote hx hh bytes_3 hok.refs (more_le ask3) h4 rfl
    rcases ht with ⟨hp, _, rfl, rfl, ey⟩ | ⟨f, _⟩
    · obtain rfl : p = 0 := by simpa using hp
      have hm' : fileL 1 (leafAt C 3 made) = padTo hey10 := by rw [hm]; exact congrArg padTo (pover3 hr)
      have ey' : ∃ z, y = ⟨nA, [⟨nF, made, z⟩], []⟩ := ⟨_, ey⟩
      obtain ⟨z, rfl⟩ := ey'
      have hfD := hf ⟨nF, made, z⟩ (by simp [entsX])
      have hfo := hy.files.files ⟨nF, made, z⟩ (by simp)
      rw [hm'] at hfD
      have c0 := chunk_fileL 1 (leafAt D' 3 made) (i := 0) (by omega) (hfo.leaf04 0 (by omega))
      have c2 := chunk_fileL 1 (leafAt D' 3 made) (i := 2) (by omega) (hfo.leaf04 2 (by omega))
      have hfD' : fileL 1 (leafAt D' 3 made) = padTo hey10 := hfD
      rw [hfD'] at c0 c2
      have d0 : chunk (padTo hey10) 0 = [104, 101, 121, 0] := by decide +kernel
      have d2 : chunk (padTo hey10) 2 = [0, 120, 0, 0] := by decide +kernel
      rw [d0] at c0
      rw [d2] at c2
      have g5 := uses_ge hD h5 (r := made) (by simp [rootsL, rootsX, rootsE]) hfo.rooted (fun f => by rw [f, plain_nil] at c0; exact absurd c0 (by decide)) (fun f => by rw [f, plain_nil] at c2; exact absurd c2 (by decide)) (fun f => by rw [← f] at c2; exact differ c0.symm c2.symm)
      have h6' : q ≤ 4 := h6
      omega
    · exact f ⟨⟨nF, r, 3⟩, by simp, rfl⟩
theorem st4 {D D' : Nat → Blk} {m : List TenE} {e N r : Int} (h : DoCase 110 D (l2 r) 1 ⟨2, 10, []⟩ ask4 D' m e N) : e = 5 ∧ D' = D ∧ m = l2 r := by
  have hk : ask4.kind = 11 := rfl
  cases h with
  | noadd _ h1 => rw [hk] at h1; omega
  | add _ h1 => rw [hk] at h1; omega
  | uses _ h1 => rw [hk] at h1; omega
  | missing _ _ h1 => exact ⟨rfl, rfl, rfl⟩
  | look _ _ _ _ h1 => simp at h1
  | destroy _ _ _ _ _ h1 => rw [hk] at h1; omega
  | noclone _ _ _ _ _ h1 => rw [hk] at h1; omega
  | clone _ _ _ _ _ _ _ h1 => rw [hk] at h1; omega
  | nochange _ _ _ _ _ h1 => exact absurd hk h1.2.2.1
  | change _ _ _ _ _ _ _ h1 => exact absurd hk h1.2.2.1
theorem st5 {D D' : Nat → Blk} {m : List TenE} {e N r : Int} (h : DoCase 110 D (l2 r) 0 ⟨1, 4, [x1 r]⟩ ask4 D' m e N) : D' = D ∧ m = l2 r := by
  have hk : ask4.kind = 11 := rfl
  cases h with
  | noadd _ h1 => rw [hk] at h1; omega
  | add _ h1 => rw [hk] at h1; omega
  | uses _ h1 => rw [hk] at h1; omega
  | missing _ _ h1 => exact ⟨rfl, rfl⟩
  | look _ _ _ _ h1 => exact ⟨rfl, rfl⟩
  | destroy _ _ _ _ _ h1 => rw [hk] at h1; omega
  | noclone _ _ _ _ _ h1 => rw [hk] at h1; omega
  | clone _ _ _ _ _ _ _ h1 => rw [hk] at h1; omega
  | nochange _ _ _ _ _ h1 => exact absurd hk h1.2.2.1
  | change _ _ _ _ _ _ _ h1 => exact absurd hk h1.2.2.1
theorem runs_last {n : Nat} {B : Nat → Blk} {l : List TenE} {xs : List (Int × AskE)} {k : Nat} {a : AskE} {D : Nat → Blk} {m : List TenE} {ys : List (Int × Int)} (h : RunsTo n B l (xs ++ [((k : Int), a)]) D m ys) (hk : k < l.length) (hlen : ∀ D m ys, RunsTo n B l xs D m ys → m.length = l.length) : ∃ D1 m1 ys1 t e N, ys = ys1 ++ [(e, N)] ∧ RunsTo n B l xs D1 m1 ys1 ∧ m1[k]? = some t ∧ DoCase n D1 m1 k t a D m e N := by
  generalize hz : xs ++ [((k : Int), a)] = zs at h
  cases h with
  | nil => simp at hz
  | miss xs' _ _ ys' i a' h1 h2 =>
    obtain ⟨e1, e2⟩ := List.append_inj' hz rfl
    subst e1
    simp only [List.cons.injEq, Prod.mk.injEq, and_true] at e2
    obtain ⟨rfl, rfl⟩ := e2
    have := hlen _ _ _ h1
    exact absurd ⟨by omega, by omega⟩ h2
  | step xs' D1 m1 ys' k' a' t _ _ e N h1 h2 h3 =>
    obtain ⟨e1, e2⟩ := List.append_inj' hz rfl
    subst e1
    simp only [List.cons.injEq, Prod.mk.injEq, and_true] at e2
    obtain ⟨e3, rfl⟩ := e2
    obtain rfl : k = k' := by omega
    exact ⟨D1, m1, ys', t, e, N, rfl, h1, h2, h3⟩
theorem runs_nil {n : Nat} {B : Nat → Blk} {l : List TenE} {D : Nat → Blk} {m : List TenE} {ys : List (Int × Int)} (h : RunsTo n B l [] D m ys) : D = B ∧ m = l ∧ ys = [] := by
  generalize hz : ([] : List (Int × AskE)) = zs at h
  cases h with
  | nil => exact ⟨rfl, rfl, rfl⟩
  | miss => simp at hz
  | step => simp at hz
theorem pooled_run {D : Nat → Blk} {m : List TenE} {ys : List (Int × Int)} (hok0 : PoolOk 110 B0 l0) (h : RunsTo 110 B0 l0 [(0, ask1), (0, ask2), (0, ask3), (1, ask4), (0, ask4)] D m ys) :
    ∃ r N1 N2 N3 N4 e5 N5, ys = [(0, N1), (0, N2), (8, N3), (5, N4), (e5, N5)] ∧ m = l2 r ∧ fileL 1 (leafAt D 3 r) = padTo hey := by
  have r1 : ∀ D m ys, RunsTo 110 B0 l0 [((0 : Nat), ask1)] D m ys → D = B0 ∧ m = l1 ∧ ∃ N, ys = [(0, N)] := fun D m ys h => by
    obtain ⟨D1, m1, ys1, t, e, N, rfl, h1, h2, h3⟩ := runs_last (xs := []) (k := 0) h (by decide) (fun D m ys h => by rw [(runs_nil h).2.1])
    obtain ⟨rfl, rfl, rfl⟩ := runs_nil h1
    obtain rfl : t = ⟨1, 4, []⟩ := by simpa using h2.symm
    obtain ⟨rfl, rfl, rfl⟩ := st1 h3
    exact ⟨rfl, rfl, N, rfl⟩
  have hok1 : PoolOk 110 B0 l1 := by
    refine (DoCase.is (n := 110) (B := B0) (l := l0) (i := 0) (t := ⟨1, 4, []⟩) (a := ask1) (D := B0) (l' := l1) (e1 := 0) (N := 0) hok0 rfl (fun x hx => by cases hx) ?_).ok
    have := DoCase.add (n := 110) (B := B0) (l := l0) (i := 0) (t := ⟨1, 4, []⟩) (a := ask1) 0 rfl isName_A (by decide) ⟨Nat.zero_le _, fun x hx => (by cases hx), fun x hx => (by cases hx), ⟨fun f => (by cases f), fun ⟨x, hx, _⟩ => (by cases hx)⟩⟩
    exact this
  have r2 : ∀ D m ys, RunsTo 110 B0 l0 [((0 : Nat), ask1), ((0 : Nat), ask2)] D m ys → PoolOk 110 D m ∧ usedTo D 110 ≤ 4 ∧ ∃ r N1 N2, m = l2 r ∧ fileL 1 (leafAt D 3 r) = padTo hey ∧ ys = [(0, N1), (0, N2)] := fun D m ys h => by
    obtain ⟨D1, m1, ys1, t, e, N, rfl, h1, h2, h3⟩ := runs_last (xs := [((0 : Nat), ask1)]) (k := 0) h (by decide) (fun D m ys h => by rw [(r1 D m ys h).2.1]; rfl)
    obtain ⟨rfl, rfl, N1, rfl⟩ := r1 _ _ _ h1
    obtain rfl : t = ⟨1, 4, [x0]⟩ := by simpa using h2.symm
    have hi := h3.is hok1 rfl bytes_2
    obtain ⟨rfl, h4, r, rfl, hr⟩ := st2 hok1 h3
    exact ⟨hi.ok, h4, r, N1, N, rfl, hr, rfl⟩
  have r3 : ∀ D m ys, RunsTo 110 B0 l0 [((0 : Nat), ask1), ((0 : Nat), ask2), ((0 : Nat), ask3)] D m ys → PoolOk 110 D m ∧ ∃ r N1 N2 N3, m = l2 r ∧ fileL 1 (leafAt D 3 r) = padTo hey ∧ ys = [(0, N1), (0, N2), (8, N3)] := fun D m ys h => by
    obtain ⟨D1, m1, ys1, t, e, N, rfl, h1, h2, h3⟩ := runs_last (xs := [((0 : Nat), ask1), ((0 : Nat), ask2)]) (k := 0) h (by decide) (fun D m ys h => by obtain ⟨_, _, r, _, _, e, _⟩ := r2 D m ys h; rw [e]; rfl)
    obtain ⟨hok, h4, r, N1, N2, rfl, hr, rfl⟩ := r2 _ _ _ h1
    obtain rfl : t = ⟨1, 4, [x1 r]⟩ := by simpa using h2.symm
    obtain ⟨rfl, rfl, rfl⟩ := st3 hok hr h4 h3
    exact ⟨hok, r, N1, N2, N, rfl, hr, rfl⟩
  have r4 : ∀ D m ys, RunsTo 110 B0 l0 [((0 : Nat), ask1), ((0 : Nat), ask2), ((0 : Nat), ask3), ((1 : Nat), ask4)] D m ys → ∃ r N1 N2 N3 N4, m = l2 r ∧ fileL 1 (leafAt D 3 r) = padTo hey ∧ ys = [(0, N1), (0, N2), (8, N3), (5, N4)] := fun D m ys h => by
    obtain ⟨D1, m1, ys1, t, e, N, rfl, h1, h2, h3⟩ := runs_last (xs := [((0 : Nat), ask1), ((0 : Nat), ask2), ((0 : Nat), ask3)]) (k := 1) h (by decide) (fun D m ys h => by obtain ⟨_, r, _, _, _, e, _⟩ := r3 D m ys h; rw [e]; rfl)
    obtain ⟨hok, r, N1, N2, N3, rfl, hr, rfl⟩ := r3 _ _ _ h1
    obtain rfl : t = ⟨2, 10, []⟩ := by simpa using h2.symm
    obtain ⟨rfl, rfl, rfl⟩ := st4 h3
    exact ⟨r, N1, N2, N3, N, rfl, hr, rfl⟩
  obtain ⟨D1, m1, ys1, t, e, N, rfl, h1, h2, h3⟩ := runs_last (xs := [((0 : Nat), ask1), ((0 : Nat), ask2), ((0 : Nat), ask3), ((1 : Nat), ask4)]) (k := 0) h (by decide) (fun D m ys h => by obtain ⟨r, _, _, _, _, e, _⟩ := r4 D m ys h; rw [e]; rfl)
  obtain ⟨r, N1, N2, N3, N4, rfl, hr, rfl⟩ := r4 _ _ _ h1
  obtain rfl : t = ⟨1, 4, [x1 r]⟩ := by simpa using h2.symm
  obtain ⟨rfl, rfl⟩ := st5 h3
  exact ⟨r, N1, N2, N3, N4, e, N, rfl, rfl, hr⟩
end Go.Proofs.YtnmcgmpmcliinaaGreat
