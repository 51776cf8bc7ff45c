/-
  SndS in one text. Nothing here is trusted.
-/
import Derived.Test.YtnmcgmpmcliinaaGreatPart32
import Derived.Test.YtnmcgmpmcliinaaGreatPart05
set_option linter.unusedVariables false
namespace Go.Proofs.YtnmcgmpmcliinaaGreat
open Go.RowKit

/-- what a slice of changes holds -/
def DifsAt (w : World) (a : Option Addr) (n : Nat) (ms : List DifM) : Prop :=
  ms.length = n ∧ (∀ m ∈ ms, m.At (fun _ => True) w) ∧ (0 < n → ∃ b off, a = some ⟨b, off, none⟩ ∧ b < w.heap.size ∧ ∀ i m, ms[i]? = some m → w.cell? ⟨b, off + i * 4, none⟩ = some (.int .i64 m.e.kind) ∧ w.cell? ⟨b, off + i * 4 + 1, none⟩ = some (.string m.e.name) ∧ w.cell? ⟨b, off + i * 4 + 2, none⟩ = some (.int .i64 m.e.num) ∧ w.cell? ⟨b, off + i * 4 + 3, none⟩ = some (.slice m.ba m.bn m.bc))
theorem DifsAt.below {w w' : World} {a : Option Addr} {n : Nat} {ms : List DifM} (h : DifsAt w a n ms) (bb : Below w.heap.size w w') : DifsAt w' a n ms := by
  refine ⟨h.1, fun m hm => (h.2.1 m hm).below bb, fun hn => ?_⟩
  obtain ⟨b, off, rfl, hlt, hc⟩ := h.2.2 hn
  refine ⟨b, off, rfl, Nat.lt_of_lt_of_le hlt bb.size, fun i m hm => ?_⟩
  obtain ⟨c0, c1, c2, c3⟩ := hc i m hm
  exact ⟨(bb.cell (p := ⟨b, off + i * 4, none⟩) hlt).trans c0, (bb.cell (p := ⟨b, off + i * 4 + 1, none⟩) hlt).trans c1, (bb.cell (p := ⟨b, off + i * 4 + 2, none⟩) hlt).trans c2, (bb.cell (p := ⟨b, off + i * 4 + 3, none⟩) hlt).trans c3⟩
theorem DRow.at {base : Nat} {w : World} {a : Option Addr} {n c : Nat} {ms : List DifM} (h : DRow base w (.slice a n c) ms) : DifsAt w a n ms := by
  have hn : n = ms.length := by
    rcases h.row.2 with ⟨hv, h0⟩ | ⟨_, _, _, hv, _⟩
    · simp only [Value.slice.injEq] at hv
      omega
    · simp only [Value.slice.injEq] at hv
      exact hv.2.1
  refine ⟨hn.symm, fun m hm => (h.els m hm).weaken (fun _ _ _ => trivial), fun h0 => ?_⟩
  rcases h.row.2 with ⟨hv, h1⟩ | ⟨g, cap, cur, hv, hb, hg, hnc, _⟩
  · omega
  · simp only [Value.slice.injEq] at hv
    obtain ⟨rfl, _, rfl⟩ := hv
    refine ⟨g, 0, rfl, (h.row.lt g rfl).2, fun i m hm => ?_⟩
    obtain ⟨hi, rfl⟩ := List.getElem?_eq_some_iff.1 hm
    subst hn
    rw [Nat.zero_add]
    have hc := fun r (hr : r < 4) => (h.row.cellAt (i * 4 + r) (by omega)).trans (flat_get DifM.cells_len ms i r hi hr)
    exact ⟨hc 0 (by omega), hc 1 (by omega), hc 2 (by omega), hc 3 (by omega)⟩

set_option maxHeartbeats 1000000 in
theorem sameDif_true (d : DifE) (a1 : Option Addr) (n1 c1 : Nat) (a2 : Option Addr) (n2 c2 : Nat) (w : World) (h1 : NumsAt (fun _ => True) .u8 w a1 n1 d.bytes) (h2 : NumsAt (fun _ => True) .u8 w a2 n2 d.bytes) :
    Calls Tryz.prog 84 #[.agg #[.int .i64 d.kind, .string d.name, .int .i64 d.num, .slice a1 n1 c1], .agg #[.int .i64 d.kind, .string d.name, .int .i64 d.num, .slice a2 n2 c2]] w fun e w' => e = .returned (.bool true) ∧ Below w.heap.size w w' := by
  have b0 := (below_alloc w (.cells #[.int .i64 d.kind, .string d.name, .int .i64 d.num, .slice a1 n1 c1] 104)).alloc (by simp) (.cells #[.int .i64 d.kind, .string d.name, .int .i64 d.num, .slice a2 n2 c2] 104)
  replace h1 := hid (h1.below b0)
  replace h2 := hid (h2.below b0)
  go_enter Tryz.func84, Tryz.ntmps84
  go_wp2_with fail
  refine (bytesEqual_same a1 a2 n1 c1 n2 c2 _ _ d.bytes _ h1.out h2.out).mono ?_
  rintro e w1 ⟨rfl, rfl⟩
  go_wp2_with fail
  go_ret
  exact ⟨rfl, b0⟩

set_option maxHeartbeats 1000000 in
set_option maxRecDepth 100000 in
theorem equalDifs_true (a1 : Option Addr) (n1 c1 : Nat) (ms : List DifM) (a2 : Option Addr) (n2 c2 : Nat) (ns : List DifM) (w : World) (hn : n1 ≤ 1000) (h1 : DifsAt w a1 n1 ms) (h2 : DifsAt w a2 n2 ns) (he : ms.map (·.e) = ns.map (·.e)) :
    Calls Tryz.prog 83 #[.slice a1 n1 c1, .slice a2 n2 c2, .func (.func 84) #[] #[]] w fun e w' => e = .returned (.bool true) ∧ Below w.heap.size w w' := by
  obtain rfl : n1 = n2 := by
    have := congrArg List.length he
    rw [List.length_map, List.length_map, h1.1, h2.1] at this
    exact this
  have hml := h1.1
  have hnl := h2.1
  replace h1 := hid h1
  replace h2 := hid h2
  replace he := hid he
  go_enter Tryz.func83, Tryz.ntmps83
  go_wp2_with fail
  go_loopw [17] (fun v wr => ∃ i : Nat, i ≤ n1 ∧ v = .int .i64 i ∧ Below w.heap.size w wr) (fun v _ => n1 - (Go.RowKit.intOf v).toNat)
  case atStart => exact ⟨0, Nat.zero_le _, rfl, Below.refl _ _⟩
  case round =>
    obtain ⟨i, hin, rfl, bel⟩ := hrel
    by_cases hlt : i < n1
    · have hi1 : i < ms.length := by omega
      have hi2 : i < ns.length := by omega
      have A1 := h1.out.below bel
      have A2 := h2.out.below bel
      obtain ⟨b, off, rfl, hb, hc⟩ := A1.2.2 (by omega)
      obtain ⟨b', off', rfl, hb', hc'⟩ := A2.2.2 (by omega)
      obtain ⟨c0, c1, c2, c3⟩ := hc i _ (List.getElem?_eq_getElem hi1)
      obtain ⟨d0, d1, d2, d3⟩ := hc' i _ (List.getElem?_eq_getElem hi2)
      have N1 := (A1.2.1 _ (List.getElem_mem hi1)).bytes
      have N2 := (A2.2.1 _ (List.getElem_mem hi2)).bytes
      have hee : ms[i].e = ns[i].e := by
        have h3 : (ms.map (·.e))[i]? = (ns.map (·.e))[i]? := by rw [he.out]
        simpa [hi1, hi2] using h3
      clear A1 A2 hc hc'
      generalize ms[i] = m at *
      generalize ns[i] = q at *
      rw [← hee] at d0 d1 d2 N2
      replace hee := hid hee
      replace N1 := hid N1
      replace N2 := hid N2
      obtain ⟨d, ma, mn, mc⟩ := m
      obtain ⟨d', qa, qn, qc⟩ := q
      simp only at c0 c1 c2 c3 d0 d1 d2 d3
      have bA := (below_alloc wr (.cells #[.int .i64 d.kind, .string d.name, .int .i64 d.num, .slice ma mn mc] 104)).alloc (by simp) (.cells #[.int .i64 d.kind, .string d.name, .int .i64 d.num, .slice qa qn qc] 104)
      have N1' := hid (N1.out.below bA)
      have N2' := hid (N2.out.below bA)
      have belA := hid (Below.tr bel bA)
      have e0 : ¬ b' = wr.heap.size := by omega
      clear N1 N2
      replace bA := hid bA
      go_wp2_with fail
      refine (sameDif_true d ma mn mc qa qn qc _ N1'.out N2'.out).mono ?_
      rintro e w1 ⟨rfl, b1⟩
      have belB := hid (Below.tr belA.out b1)
      go_wp2_with fail
      go_roundw
      case rel => exact ⟨i + 1, by omega, by go_num, belB.out⟩
      case measure => simp [Go.RowKit.intOf]; omega
    · obtain rfl : i = n1 := by omega
      go_wp2_with fail
      go_ret
      exact ⟨rfl, bel⟩
theorem sameDifs_true (a1 : Option Addr) (n1 c1 : Nat) (ms : List DifM) (a2 : Option Addr) (n2 c2 : Nat) (ns : List DifM) (w : World) (hn : n1 ≤ 1000) (h1 : DifsAt w a1 n1 ms) (h2 : DifsAt w a2 n2 ns) (he : ms.map (·.e) = ns.map (·.e)) :
    Calls Tryz.prog 43 #[.slice a1 n1 c1, .slice a2 n2 c2] w fun e w' => e = .returned (.bool true) ∧ Below w.heap.size w w' := by
  go_enter Tryz.func43, Tryz.ntmps43
  go_wp2_with fail
  refine (equalDifs_true a1 n1 c1 ms a2 n2 c2 ns w hn h1 h2 he).mono ?_
  rintro e w1 ⟨rfl, b1⟩
  go_wp2_with fail
  go_ret
  exact ⟨rfl, b1⟩
end Go.Proofs.YtnmcgmpmcliinaaGreat
