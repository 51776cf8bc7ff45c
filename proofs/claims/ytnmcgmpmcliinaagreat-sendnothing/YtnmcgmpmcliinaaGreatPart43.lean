/-
  OpenX in one text. Nothing here is trusted.
-/
import Derived.Test.YtnmcgmpmcliinaaGreatPart14
import Derived.Test.YtnmcgmpmcliinaaGreatPart42
import Derived.Deep.Strs
set_option linter.unusedVariables false
namespace Go.Proofs.YtnmcgmpmcliinaaGreat
open Go.ChangeShapes Go.WideShapes Go.RowKit Go.Deep

section
variable {H : Type} {enc : TypeId × Value → H} {W : World}

theorem range_getD {α : Type} (f : Nat → α) (n i : Nat) (d : α) (h : i < n) : ((List.range n).map f).getD i d = f i := by
  simp [List.getD, h]

set_option maxRecDepth 100000 in
theorem ent_open {m : Nat} {cs : List Value} {y : DataW H × List MemPlace} (h : DataW.trod enc Tryz.prog W 0 (fun _ => true) true m 62 cs = some y) :
    ∃ x : Ent, cs = [.string x.name, .int .i64 x.root, .int .i64 x.size] ∧ x.ok := by
  obtain ⟨y0, y1, n, _, hl, h0, h1⟩ := trod_struct2 Tryz.underlying62 h
  have hl3 : cs.length = 3 := hl.trans (by kernel_rfl)
  match cs, hl3 with
  | [c0, c1, c2], _ =>
    have e0 : Tryz.prog.cellsOf 9 = 1 := by kernel_rfl
    have e1 : Tryz.prog.cellsOf 3 = 1 := by kernel_rfl
    have e2 : Tryz.prog.cellsOf 60 = 2 := by kernel_rfl
    simp [e0, e2] at h0 h1
    obtain ⟨s, hs, _, ws⟩ := DataW.trod_string Tryz.underlying9 h0
    obtain ⟨z0, z1, n', _, _, g0, g1⟩ := trod_struct2 Tryz.underlying60 h1
    simp [e1] at g0 g1
    obtain ⟨r, hr, _, wr⟩ := DataW.trod_int Tryz.underlying3 g0
    obtain ⟨z, hz, _, wz⟩ := DataW.trod_int Tryz.underlying3 g1
    simp at hs hr hz
    subst hs hr hz
    have b1 := bounds_i64 wr
    have b2 := bounds_i64 wz
    have b1' : -9223372036854775808 ≤ r ∧ r ≤ 9223372036854775807 := by omega
    have b2' : -9223372036854775808 ≤ z ∧ z ≤ 9223372036854775807 := by omega
    exact ⟨⟨s, r, z⟩, rfl, ws, b1', b2'⟩

set_option maxRecDepth 100000 in
theorem ents_open {m : Nat} {v : Value} {y : DataW H × List MemPlace} (h : DataW.trod enc Tryz.prog W 0 (fun _ => true) true m 44 [v] = some y) :
    ∃ a n c l, v = .slice a n c ∧ n ≤ c ∧ n ≤ maxLen ∧ EntsAt (fun _ => True) W a n l := by
  have e3 : Tryz.prog.cellsOf 62 = 3 := by kernel_rfl
  rcases open_slice Tryz.underlying44 h with ⟨hcs, _⟩ | ⟨a, len, cap, m, n', D, Pl, hcs, _, hl, hm, hmm, _, hx⟩
  · exact ⟨none, 0, 0, [], by simpa using hcs, Nat.le_refl _, Nat.zero_le _, entsAt_nil _ _ _⟩
  · simp at hcs
    subst hcs
    simp only [if_true] at hmm
    subst hmm
    have hone : ∀ i, i < len → ∃ x : Ent, W.cell? (a.add (i * 3)) = some (.string x.name) ∧ W.cell? ((a.add (i * 3)).add 1) = some (.int .i64 x.root) ∧ W.cell? ((a.add (i * 3)).add 2) = some (.int .i64 x.size) ∧ x.ok := by
      intro i hi
      obtain ⟨cs', h1, h2⟩ := hx i (by omega)
      rw [e3] at h1
      obtain ⟨x, rfl, hok⟩ := ent_open h2
      obtain ⟨_, _, hc⟩ := World.cells?_some h1
      have c0 := hc 0 (by omega)
      have c1 := hc 1 (by omega)
      have c2 := hc 2 (by omega)
      have ez : (a.add (i * 3)).add 0 = a.add (i * 3) := add_zero' _
      rw [ez] at c0
      exact ⟨x, c0, c1, c2, hok⟩
    obtain ⟨X, hX⟩ := choose_lt hone
    refine ⟨some a, len, m, (List.range len).map X, rfl, hl, by omega, by simp, fun x hx => ?_, fun hp => ?_⟩
    · obtain ⟨i, hi, rfl⟩ := List.mem_map.1 hx
      exact (hX i (List.mem_range.1 hi)).2.2.2
    · obtain ⟨h0', _⟩ := hX 0 (by omega)
      rw [Nat.zero_mul, add_zero'] at h0'
      have hx0 := addr_none h0'
      obtain ⟨b, off, spot⟩ := a
      simp only [Addr.mk.injEq, true_and] at hx0
      subst hx0
      refine ⟨b, off, rfl, cell_lt h0', trivial, fun i hi => ?_⟩
      obtain ⟨c0, c1, c2, _⟩ := hX i hi
      rw [add_none] at c0 c1 c2
      rw [add_none] at c1 c2
      rw [range_getD _ _ _ _ hi]
      exact ⟨c0, c1, c2⟩

set_option maxRecDepth 100000 in
theorem snap_open {m : Nat} {cs : List Value} {y : DataW H × List MemPlace} (h : DataW.trod enc Tryz.prog W 0 (fun _ => true) true m 89 cs = some y) :
    ∃ (x : SnapE) (fa : Option Addr) (fn fc : Nat), cs = [.string x.name, .slice fa fn fc] ∧ x.name.size ≤ maxLen ∧ fn ≤ fc ∧ EntsAt (fun _ => True) W fa fn x.files := by
  obtain ⟨y0, y1, n, _, hl, h0, h1⟩ := trod_struct2 Tryz.underlying89 h
  have hl2 : cs.length = 2 := hl.trans (by kernel_rfl)
  match cs, hl2 with
  | [c0, c1], _ =>
    have e0 : Tryz.prog.cellsOf 9 = 1 := by kernel_rfl
    have e1 : Tryz.prog.cellsOf 44 = 1 := by kernel_rfl
    simp [e0, e1] at h0 h1
    obtain ⟨s, hs, _, ws⟩ := DataW.trod_string Tryz.underlying9 h0
    obtain ⟨fa, fn, fc, l, rfl, hc, _, hE⟩ := ents_open h1
    simp at hs
    subst hs
    exact ⟨⟨s, l⟩, fa, fn, fc, rfl, ws, hc, hE⟩

set_option maxRecDepth 100000 in
theorem snaps_open {m : Nat} {v : Value} {y : DataW H × List MemPlace} (h : DataW.trod enc Tryz.prog W 0 (fun _ => true) true m 45 [v] = some y) :
    ∃ a n c l, v = .slice a n c ∧ n ≤ c ∧ n ≤ maxLen ∧ SnapsAt (fun _ => True) W a n l := by
  have e3 : Tryz.prog.cellsOf 89 = 2 := by kernel_rfl
  rcases open_slice Tryz.underlying45 h with ⟨hcs, _⟩ | ⟨a, len, cap, m, n', D, Pl, hcs, _, hl, hm, hmm, _, hx⟩
  · exact ⟨none, 0, 0, [], by simpa using hcs, Nat.le_refl _, Nat.zero_le _, snapsAt_nil _ _ _⟩
  · simp at hcs
    subst hcs
    simp only [if_true] at hmm
    subst hmm
    have hone : ∀ i, i < len → ∃ x : SnapE, ∃ fa fn fc, W.cell? (a.add (i * 2)) = some (.string x.name) ∧ W.cell? ((a.add (i * 2)).add 1) = some (.slice fa fn fc) ∧ x.name.size ≤ maxLen ∧ fn ≤ fc ∧ EntsAt (fun _ => True) W fa fn x.files := by
      intro i hi
      obtain ⟨cs', h1, h2⟩ := hx i (by omega)
      rw [e3] at h1
      obtain ⟨x, fa, fn, fc, rfl, hs, hcp, hE⟩ := snap_open h2
      obtain ⟨_, _, hc⟩ := World.cells?_some h1
      have c0 := hc 0 (by omega)
      have c1 := hc 1 (by omega)
      have ez : (a.add (i * 2)).add 0 = a.add (i * 2) := add_zero' _
      rw [ez] at c0
      exact ⟨x, fa, fn, fc, c0, c1, hs, hcp, hE⟩
    obtain ⟨X, hX⟩ := choose_lt hone
    refine ⟨some a, len, m, (List.range len).map X, rfl, hl, by omega, by simp, fun hp => ?_⟩
    obtain ⟨_, _, _, h0', _⟩ := hX 0 (by omega)
    rw [Nat.zero_mul, add_zero'] at h0'
    have hx0 := addr_none h0'
    obtain ⟨b, off, spot⟩ := a
    simp only [Addr.mk.injEq, true_and] at hx0
    subst hx0
    refine ⟨b, off, rfl, cell_lt h0', trivial, fun i hi => ?_⟩
    obtain ⟨fa, fn, fc, c0, c1, hs, hcp, hE⟩ := hX i hi
    rw [add_none] at c0 c1
    rw [add_none] at c1
    rw [range_getD _ _ _ _ hi]
    exact ⟨fa, fn, fc, c0, c1, hE, hs, hcp⟩

set_option maxRecDepth 100000 in
theorem set_open {r : Reach} {b0 : Nat} {v : Value} {d : DataW H} {p : List MemPlace} (hv : Value.okWide Tryz.prog W r b0 47 v) (h : DataW.Trod enc Tryz.prog W 0 (fun _ => true) true 47 v d p) :
    ∃ (V : SetV) (x : SetE), v = V.val ∧ SetAt (fun _ => True) W V x ∧ V.fn ≤ maxLen ∧ V.sn ≤ maxLen := by
  obtain ⟨cs, rfl, hsz⟩ := okWide_struct Tryz.underlying47 hv
  have hsz3 : cs.size = 3 := hsz.trans (by kernel_rfl)
  obtain ⟨l⟩ := cs
  match l, hsz3 with
  | [c0, c1, c2], _ =>
    obtain ⟨fuel, hf⟩ := h
    obtain ⟨y0, y1, y2, n, _, _, h0, h1, h2⟩ := trod_struct3 Tryz.underlying47 hf
    have e0 : Tryz.prog.cellsOf 9 = 1 := by kernel_rfl
    have e1 : Tryz.prog.cellsOf 44 = 1 := by kernel_rfl
    have e2 : Tryz.prog.cellsOf 45 = 1 := by kernel_rfl
    simp [Value.cells, e0, e1, e2] at h0 h1 h2
    obtain ⟨s, hs, _, ws⟩ := DataW.trod_string Tryz.underlying9 h0
    obtain ⟨fa, fn, fc, fl, rfl, hfc, hfm, hE⟩ := ents_open h1
    obtain ⟨sa, sn, sc, sl, rfl, hsc, hsm, hS⟩ := snaps_open h2
    simp at hs
    subst hs
    exact ⟨⟨s, fa, fn, fc, sa, sn, sc⟩, ⟨s, fl, sl⟩, rfl, ⟨rfl, ws, hE, hS, hfc, hsc⟩, hfm, hsm⟩

set_option maxRecDepth 100000 in
theorem ask_open {m : Nat} {cs : List Value} {y : DataW H × List MemPlace} (h : DataW.trod enc Tryz.prog W 0 (fun _ => true) true m 30 cs = some y) :
    ∃ (x : AskE) (ba : Option Addr) (bn bc : Nat), cs = [.int .i64 x.kind, .string x.set, .string x.file, .string x.to, .int .i64 x.pos, .int .i64 x.num, .slice ba bn bc] ∧ x.ok ∧ bn ≤ bc ∧ NumsAt (fun _ => True) .u8 W ba bn x.bytes := by
  obtain ⟨xs, n, _, rfl, hl, hlen, hf⟩ := DataW.trod_struct Tryz.underlying30 h
  have hl7 : cs.length = 7 := hl.trans (by kernel_rfl)
  match xs, hlen, cs, hl7 with
  | [y0, y1, y2, y3, y4, y5, y6], _, [c0, c1, c2, c3, c4, c5, c6], _ =>
    have e0 : Tryz.prog.cellsOf 9 = 1 := by kernel_rfl
    have e1 : Tryz.prog.cellsOf 3 = 1 := by kernel_rfl
    have e2 : Tryz.prog.cellsOf 28 = 1 := by kernel_rfl
    have h0 := hf 0 _ rfl
    have h1 := hf 1 _ rfl
    have h2 := hf 2 _ rfl
    have h3 := hf 3 _ rfl
    have h4 := hf 4 _ rfl
    have h5 := hf 5 _ rfl
    have h6 := hf 6 _ rfl
    simp [e0, e1, e2] at h0 h1 h2 h3 h4 h5 h6
    obtain ⟨k, hk, _, wk⟩ := DataW.trod_int Tryz.underlying3 h0
    obtain ⟨s1, hs1, _, ws1⟩ := DataW.trod_string Tryz.underlying9 h1
    obtain ⟨s2, hs2, _, ws2⟩ := DataW.trod_string Tryz.underlying9 h2
    obtain ⟨s3, hs3, _, ws3⟩ := DataW.trod_string Tryz.underlying9 h3
    obtain ⟨q, hq, _, wq⟩ := DataW.trod_int Tryz.underlying3 h4
    obtain ⟨u, hu, _, wu⟩ := DataW.trod_int Tryz.underlying3 h5
    obtain ⟨ba, bn, bc, bs, rfl, hb, _, hB⟩ := nums_open Tryz.underlying28 Tryz.underlying5 (by kernel_rfl) h6
    simp at hk hs1 hs2 hs3 hq hu
    subst hk hs1 hs2 hs3 hq hu
    have b1 := bounds_i64 wk
    have b2 := bounds_i64 wq
    have b3 := bounds_i64 wu
    have b1' : -9223372036854775808 ≤ k ∧ k ≤ 9223372036854775807 := by omega
    have b2' : -9223372036854775808 ≤ q ∧ q ≤ 9223372036854775807 := by omega
    have b3' : -9223372036854775808 ≤ u ∧ u ≤ 9223372036854775807 := by omega
    exact ⟨⟨k, s1, s2, s3, q, u, bs⟩, ba, bn, bc, rfl, ⟨⟨ws1, ws2, ws3⟩, b1', b2', b3'⟩, hb, hB⟩

set_option maxRecDepth 100000 in
theorem asks_open {r : Reach} {b0 : Nat} {v : Value} {d : DataW H} {p : List MemPlace} (hv : Value.okWide Tryz.prog W r b0 78 v) (h : DataW.Trod enc Tryz.prog W 0 (fun _ => true) true 78 v d p) :
    ∃ a n c l, v = .slice a n c ∧ n ≤ c ∧ n ≤ maxLen ∧ AsksAt W a n l := by
  obtain ⟨a, n, c, rfl⟩ := okWide_slice Tryz.underlying78 hv
  obtain ⟨fuel, hf⟩ := h
  have e3 : Tryz.prog.cellsOf 30 = 7 := by kernel_rfl
  simp [Value.cells] at hf
  rcases open_slice Tryz.underlying78 hf with ⟨hcs, _⟩ | ⟨a, len, cap, m, n', D, Pl, hcs, _, hl, hm, hmm, _, hx⟩
  · simp at hcs
    obtain ⟨rfl, rfl, rfl⟩ := hcs
    exact ⟨none, 0, 0, [], rfl, Nat.le_refl _, Nat.zero_le _, rfl, fun h => absurd h (by omega)⟩
  · simp at hcs
    obtain ⟨rfl, rfl, rfl⟩ := hcs
    simp only [if_true] at hmm
    subst hmm
    have hone : ∀ i, i < n → ∃ x : AskE, ∃ ba bn bc, (W.cell? (a.add (i * 7)) = some (.int .i64 x.kind) ∧ W.cell? ((a.add (i * 7)).add 1) = some (.string x.set) ∧ W.cell? ((a.add (i * 7)).add 2) = some (.string x.file) ∧ W.cell? ((a.add (i * 7)).add 3) = some (.string x.to) ∧
        W.cell? ((a.add (i * 7)).add 4) = some (.int .i64 x.pos) ∧ W.cell? ((a.add (i * 7)).add 5) = some (.int .i64 x.num) ∧ W.cell? ((a.add (i * 7)).add 6) = some (.slice ba bn bc)) ∧ x.ok ∧ bn ≤ bc ∧ NumsAt (fun _ => True) .u8 W ba bn x.bytes := by
      intro i hi
      obtain ⟨cs', h1, h2⟩ := hx i (by omega)
      rw [e3] at h1
      obtain ⟨x, ba, bn, bc, rfl, hok, hcp, hB⟩ := ask_open h2
      obtain ⟨_, _, hc⟩ := World.cells?_some h1
      have c0 := hc 0 (by omega)
      have c1 := hc 1 (by omega)
      have c2 := hc 2 (by omega)
      have c3 := hc 3 (by omega)
      have c4 := hc 4 (by omega)
      have c5 := hc 5 (by omega)
      have c6 := hc 6 (by omega)
      have ez : (a.add (i * 7)).add 0 = a.add (i * 7) := add_zero' _
      rw [ez] at c0
      exact ⟨x, ba, bn, bc, ⟨c0, c1, c2, c3, c4, c5, c6⟩, hok, hcp, hB⟩
    obtain ⟨X, hX⟩ := choose_lt hone
    refine ⟨some a, n, m, (List.range n).map X, rfl, hl, by omega, by simp, fun hp => ?_⟩
    obtain ⟨_, _, _, ⟨h0', _⟩, _⟩ := hX 0 (by omega)
    rw [Nat.zero_mul, add_zero'] at h0'
    have hx0 := addr_none h0'
    obtain ⟨b, off, spot⟩ := a
    simp only [Addr.mk.injEq, true_and] at hx0
    subst hx0
    refine ⟨b, off, rfl, cell_lt h0', fun i hi => ?_⟩
    obtain ⟨ba, bn, bc, ⟨c0, c1, c2, c3, c4, c5, c6⟩, hok, hcp, hB⟩ := hX i hi
    rw [add_none] at c0 c1 c2 c3 c4 c5 c6
    rw [add_none] at c1 c2 c3 c4 c5 c6
    rw [range_getD _ _ _ _ hi]
    exact ⟨ba, bn, bc, c0, c1, c2, c3, c4, c5, c6, hB, hok, hcp⟩
end

end Go.Proofs.YtnmcgmpmcliinaaGreat
