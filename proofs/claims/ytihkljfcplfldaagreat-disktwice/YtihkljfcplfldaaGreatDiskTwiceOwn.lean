/-
Proved: DiskTwice answers true whatever it is given: each commit has the next number, and the slots take turns: the other one stays as it is.
  Conditions: none beyond the given row's own.
-/
import Derived.Test.YtihkljfcplfldaaGreatPart38
import Derived.Test.YtihkljfcplfldaaGreatPart40
import Derived.Test.YtihkljfcplfldaaGreatPart41
import Derived.ShutString
import Derived.ChangeOld
import Derived.ChangeMaps5
namespace Go.Proofs.YtihkljfcplfldaaGreat.diskTwice
open Go.ChangeShapes Go.WideShapes Go.ChangeAt Go.RowKit Go.Deep
set_option linter.unusedVariables false

theorem own : ownKnob Tryz.prog.godebug = none := by kernel_rfl
theorem laidOut : laidOutB Tryz.prog = true := by kernel_rfl

set_option maxRecDepth 100000 in
theorem lifted (os : Os) (started : os.Started) (H : Type) (enc : TypeId × Value → H) :
    ReturnsInHanded {} Tryz.checked os 6 .any (Rows.diskTwiceSpec.pre6 enc Tryz.prog Tryz.f6 Rows.diskTwiceRow.domain false) (Rows.diskTwiceSpec.post enc Tryz.prog Tryz.f6 false true false false) := by
  refine returnsInHanded_of_change (C := Tryz.checked) own started (by kernel_rfl) Tryz.func6
    (ChangeSpec.witness6 (enc := enc) (C := Tryz.checked) false ⟨#[], #[.agg #[.slice none 0 0, .slice none 0 0], .agg #[.slice none 0 0, .slice none 0 0], .agg #[.slice none 0 0, .slice none 0 0]], []⟩ 8 (by kernel_rfl) (by kernel_rfl) (by kernel_rfl) (by kernel_rfl)) ?_
  intro W base args ds gs before hval0 hW hcnd _
  have hval : ∀ (j : Nat) t v, Tryz.f6.params[j]? = some t → args[j]? = some v → Value.okWide Tryz.prog W .any base t v := hval0
  have hW' := hW
  obtain ⟨p, q, hA0, hV, rfl, hfz, hnd⟩ := hW
  have hA : DataW.TrodAll enc Tryz.prog W 0 (fun _ => true) true Tryz.f6.params.toList args.toList ds p := hA0
  rw [Tryz.params6] at hA hval
  obtain ⟨v0, vs0, d0, ds0, p0, q0, hargs, rfl, rfl, h0, r0⟩ := trodAll_cons hA
  obtain ⟨v1, vs1, d1, ds1, p1, q1, rfl, rfl, rfl, h1, r1⟩ := trodAll_cons r0
  obtain ⟨v2, vs2, d2, ds2, p2, q2, rfl, rfl, rfl, h2, r2⟩ := trodAll_cons r1
  obtain ⟨rfl, rfl, rfl⟩ := trodAll_nil r2
  obtain rfl : args = #[v0, v1, v2] := by cases args; simp_all
  obtain ⟨rfl, rfl⟩ := trodVars_none hV
  have lt0 : ∀ x ∈ p0, x.block < W.heap.size := by obtain ⟨m, hm⟩ := h0; exact DataW.trod_lt m _ _ _ hm
  have lt1 : ∀ x ∈ p1, x.block < W.heap.size := by obtain ⟨m, hm⟩ := h1; exact DataW.trod_lt m _ _ _ hm
  have lt2 : ∀ x ∈ p2, x.block < W.heap.size := by obtain ⟨m, hm⟩ := h2; exact DataW.trod_lt m _ _ _ hm
  obtain ⟨a0, n0, c0, A0, b0, m0, e0, B0, rfl, hA0, hB0⟩ := disk_open (hval 0 53 v0 rfl rfl) h0
  obtain ⟨a1, n1, c1, B1, ta1, tn1, tc1, l1, rfl, hP1⟩ := pool_open (hval 1 27 v1 rfl rfl) h1
  have hB1 : ∀ k, k < n1 → B1 k = blksOf ((List.range n1).map B1) k := fun k hk => by simp [blksOf, List.getD, hk]
  have hP1' : PoolAt (fun _ => True) W a1 n1 (blksOf ((List.range n1).map B1)) ta1 tn1 l1 := ⟨store_congr hP1.store hB1, hP1.tens⟩
  obtain ⟨a2, n2, c2, B2, ta2, tn2, tc2, l2, rfl, hP2⟩ := pool_open (hval 2 27 v2 rfl rfl) h2
  have hB2 : ∀ k, k < n2 → B2 k = blksOf ((List.range n2).map B2) k := fun k hk => by simp [blksOf, List.getD, hk]
  have hP2' : PoolAt (fun _ => True) W a2 n2 (blksOf ((List.range n2).map B2)) ta2 tn2 l2 := ⟨store_congr hP2.store hB2, hP2.tens⟩
  clear hA0 hval0
  refine (diskTwice_walk a0 n0 c0 A0 b0 m0 e0 B0 a1 n1 c1 ((List.range n1).map B1) ta1 tn1 tc1 l1 a2 n2 c2 ((List.range n2).map B2) ta2 tn2 tc2 l2 W hA0 hB0 hP1' (by simp) hP2' (by simp)).mono fun e W' ⟨he, bel⟩ => ?_
  subst he
  exact ⟨_, rfl, _, _, _, [], _, [], hW', trodAll_mk1 (shut_bool Tryz.underlying4 _), (trodAll_cons_mk (Below.trod laidOut (by kernel_rfl) (of_decide_eq_true (by kernel_rfl)) h0 bel lt0) (trodAll_cons_mk (Below.trod laidOut (by kernel_rfl) (of_decide_eq_true (by kernel_rfl)) h1 bel lt1) (trodAll_cons_mk (Below.trod laidOut (by kernel_rfl) (of_decide_eq_true (by kernel_rfl)) h2 bel lt2) trodAll_mk0))), rfl, bel.frame _, fun h => by cases h⟩

theorem over : Rows.diskTwiceRow.holds Tryz.pinned (OpenSpec.ofChange Rows.diskTwiceSpec) :=
  OpenClaim.holds_of_wide 6 Tryz.f6 rfl rfl rfl rfl rfl rfl rfl ⟨rfl, rfl, rfl, rfl, rfl⟩ rfl rfl rfl rfl rfl (by kernel_rfl) Tryz.func6 (by kernel_rfl)
    (of_decide_eq_true (by kernel_rfl)) (by unfold Func.isWrapper; first | (rw [if_pos (by decide +kernel)]; kernel_rfl) | (rw [if_neg (by decide +kernel)]; exact ⟨rfl, rfl⟩))
    (fun os started H enc _ => lifted os started H enc)

/-- the statement -/
theorem proved : Rows.DiskTwiceSaid := over
#print axioms proved
end Go.Proofs.YtihkljfcplfldaaGreat.diskTwice

namespace Go.Proofs.YtihkljfcplfldaaGreat
theorem diskTwice_holds : Rows.DiskTwiceSaid := diskTwice.proved
end Go.Proofs.YtihkljfcplfldaaGreat
