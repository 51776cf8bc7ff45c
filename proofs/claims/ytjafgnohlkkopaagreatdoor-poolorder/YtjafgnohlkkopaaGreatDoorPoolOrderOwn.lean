/-
Proved: PoolOrder answers true whatever it is given: what two tenants ask of a pool is answered the same in either order, and leaves the same for all: or the pool is refused both times with the same error.
  Conditions: the three tables of the library that the row lists hold what their initialisers lay; the card ties that to the program's text.
-/
import Derived.Test.YtjafgnohlkkopaaGreatDoorPart35
import Derived.Test.YtjafgnohlkkopaaGreatDoorPart36
import Derived.Test.YtjafgnohlkkopaaGreatDoorCards
import Derived.Test.YtjafgnohlkkopaaGreatDoorTie
import Derived.ShutString
import Derived.ChangeOld
import Derived.ChangeMaps5
import Derived.JoinedAt
namespace Go.Proofs.YtjafgnohlkkopaaGreatDoor.poolOrder
open Go.ChangeShapes Go.WideShapes Go.ChangeAt Go.RowKit Go.Deep
set_option linter.unusedVariables false

theorem own : ownKnob Tryz.prog.godebug = none := by kernel_rfl
theorem laidOut : laidOutB Tryz.prog = true := by kernel_rfl

set_option maxRecDepth 100000 in
theorem lifted (os : Os) (started : os.Started) (H : Type) (enc : TypeId × Value → H) :
    ReturnsInHanded {} Tryz.checked os 3 .any (fun w args => (Rows.poolOrderSpec.pre enc Tryz.prog Tryz.f3 Rows.poolOrderRow.domain false w args ∧ laidMet Tryz.prog Rows.poolOrderRow.laid w) ∧ sizedMet enc Tryz.prog Tryz.f3 (OpenSpec.ofChange Rows.poolOrderSpec) false w args) (Rows.poolOrderSpec.post enc Tryz.prog Tryz.f3 false true false false) := by
  refine returnsInHanded_of_change_and (C := Tryz.checked) (X := fun w _ => laidMet Tryz.prog Rows.poolOrderRow.laid w) (fun _ _ _ hh h => h.of_heap hh) own started (by kernel_rfl) Tryz.func3
    (ChangeSpec.witness_at (enc := enc) (C := Tryz.checked) (os := os) (X := fun w _ => laidMet Tryz.prog Rows.poolOrderRow.laid w) false (laidWorld os) #[.agg #[.slice none 0 0, .slice none 0 0], .int .i64 0, .agg #[.int .i64 0, .string (ByteArray.mk #[]), .string (ByteArray.mk #[]), .string (ByteArray.mk #[]), .int .i64 0, .int .i64 0, .slice none 0 0], .int .i64 0, .agg #[.int .i64 0, .string (ByteArray.mk #[]), .string (ByteArray.mk #[]), .string (ByteArray.mk #[]), .int .i64 0, .int .i64 0, .slice none 0 0]] 8 rfl (by kernel_rfl) (by kernel_rfl) (by kernel_rfl) (by kernel_rfl) (by kernel_rfl) (laid_met os _)) ?_
  intro W base args ds gs before hval0 hW _ hsz hL _
  have hval : ∀ (j : Nat) t v, Tryz.f3.params[j]? = some t → args[j]? = some v → Value.okWide Tryz.prog W .any base t v := hval0
  have hW' := hW
  obtain ⟨p, q, hA0, hV, rfl, hfz, hnd⟩ := hW
  have hA : DataW.TrodAll enc Tryz.prog W 0 (fun _ => true) true Tryz.f3.params.toList args.toList ds p := hA0
  have htab := tab_of hL
  rw [Tryz.params3] at hA hval
  obtain ⟨v0, vs0, d0, ds0, p0, q0, hargs, rfl, rfl, h0, r0⟩ := trodAll_cons hA
  obtain ⟨v1, vs1, d1, ds1, p1, q1, rfl, rfl, rfl, h1, r1⟩ := trodAll_cons r0
  obtain ⟨v2, vs2, d2, ds2, p2, q2, rfl, rfl, rfl, h2, r2⟩ := trodAll_cons r1
  obtain ⟨v3, vs3, d3, ds3, p3, q3, rfl, rfl, rfl, h3, r3⟩ := trodAll_cons r2
  obtain ⟨v4, vs4, d4, ds4, p4, q4, rfl, rfl, rfl, h4, r4⟩ := trodAll_cons r3
  obtain ⟨rfl, rfl, rfl⟩ := trodAll_nil r4
  obtain rfl : args = #[v0, v1, v2, v3, v4] := by cases args; simp_all
  obtain ⟨rfl, rfl⟩ := trodVars_none hV
  have lt0 : ∀ x ∈ p0, x.block < W.heap.size := by obtain ⟨m, hm⟩ := h0; exact DataW.trod_lt m _ _ _ hm
  have lt2 : ∀ x ∈ p2, x.block < W.heap.size := by obtain ⟨m, hm⟩ := h2; exact DataW.trod_lt m _ _ _ hm
  have lt4 : ∀ x ∈ p4, x.block < W.heap.size := by obtain ⟨m, hm⟩ := h4; exact DataW.trod_lt m _ _ _ hm
  obtain ⟨a0, n0, c0, B0, ta0, tn0, tc0, l0, rfl, hP0⟩ := pool_open (hval 0 27 v0 rfl rfl) h0
  obtain ⟨x1, rfl, rfl, rfl, wx1⟩ := open_int Tryz.underlying3 (hval 1 3 v1 rfl rfl) h1
  have hx1 := bounds_i64 wx1
  obtain ⟨a2, ba2, bn2, bc2, rfl, hAk2, hBy2, hCp2⟩ := ask_full (hval 2 30 v2 rfl rfl) h2
  obtain ⟨x3, rfl, rfl, rfl, wx3⟩ := open_int Tryz.underlying3 (hval 3 3 v3 rfl rfl) h3
  have hx3 := bounds_i64 wx3
  obtain ⟨a4, ba4, bn4, bc4, rfl, hAk4, hBy4, hCp4⟩ := ask_full (hval 4 30 v4 rfl rfl) h4
  clear hA0 hval0
  refine (poolOrder_walk a0 n0 c0 B0 ta0 tn0 tc0 l0 x1 a2 ba2 bn2 bc2 x3 a4 ba4 bn4 bc4 W hP0 hx1 hAk2 hBy2 hCp2 hx3 hAk4 hBy4 hCp4 htab).mono fun e W' ⟨he, bel⟩ => ?_
  subst he
  exact ⟨_, rfl, _, _, _, [], _, [], hW', trodAll_mk1 (shut_bool Tryz.underlying4 _), (trodAll_cons_mk (Below.trod laidOut (by kernel_rfl) (of_decide_eq_true (by kernel_rfl)) h0 bel lt0) (trodAll_cons_mk (shut_int Tryz.underlying3 wx1) (trodAll_cons_mk (Below.trod laidOut (by kernel_rfl) (of_decide_eq_true (by kernel_rfl)) h2 bel lt2) (trodAll_cons_mk (shut_int Tryz.underlying3 wx3) (trodAll_cons_mk (Below.trod laidOut (by kernel_rfl) (of_decide_eq_true (by kernel_rfl)) h4 bel lt4) trodAll_mk0))))), rfl, bel.frame _, fun h => by cases h⟩

theorem over : Rows.poolOrderRow.holds Tryz.pinned (OpenSpec.ofChange Rows.poolOrderSpec) :=
  OpenClaim.holds_of_wide 3 Tryz.f3 rfl rfl rfl rfl rfl rfl rfl ⟨rfl, rfl, rfl, rfl, rfl⟩ rfl rfl rfl rfl rfl (by kernel_rfl) Tryz.func3 (by kernel_rfl)
    (of_decide_eq_true (by kernel_rfl)) (by unfold Func.isWrapper; first | (rw [if_pos (by decide +kernel)]; kernel_rfl) | (rw [if_neg (by decide +kernel)]; exact ⟨rfl, rfl⟩))
    (fun os started H enc _ => lifted os started H enc)

/-- the card -/
theorem proved : Rows.PoolOrderCardSaid :=
  Claim7.holds_tied_plain_at .later [] [.data, .data, .data] true Rows.poolOrderCard.stood.harness false
    over (fun _ h => by cases h) (by kernel_rfl) (fun _ h => by cases h) poolOrder_row_tie rfl ⟨rfl, rfl⟩ (by kernel_rfl) rfl
    (fun f fn hf hfn => by
      obtain rfl : f = 3 := Option.some.inj ((show Tryz.prog.funcNamed Rows.poolOrderRow.func = some 3 by kernel_rfl).symm.trans hf) |>.symm
      obtain rfl : fn = Tryz.f3 := (Option.some.inj (Tryz.func3.symm.trans hfn)).symm
      refine ⟨by kernel_rfl, fun j t ht => ?_⟩
      rw [Tryz.params3] at ht
      match j, ht with
      | 0, ht => obtain rfl : t = 27 := by simpa using ht.symm
                 exact (show Tryz.prog.wantsStandIn 27 = false by kernel_rfl)
      | 1, ht => obtain rfl : t = 3 := by simpa using ht.symm
                 exact (show Tryz.prog.wantsStandIn 3 = false by kernel_rfl)
      | 2, ht => obtain rfl : t = 30 := by simpa using ht.symm
                 exact (show Tryz.prog.wantsStandIn 30 = false by kernel_rfl)
      | 3, ht => obtain rfl : t = 3 := by simpa using ht.symm
                 exact (show Tryz.prog.wantsStandIn 3 = false by kernel_rfl)
      | 4, ht => obtain rfl : t = 30 := by simpa using ht.symm
                 exact (show Tryz.prog.wantsStandIn 30 = false by kernel_rfl)
      | j + 5, ht => simp at ht)
    (by kernel_rfl)
#print axioms proved
end Go.Proofs.YtjafgnohlkkopaaGreatDoor.poolOrder

namespace Go.Proofs.YtjafgnohlkkopaaGreatDoor
theorem poolOrder_holds : Rows.PoolOrderCardSaid := poolOrder.proved
end Go.Proofs.YtjafgnohlkkopaaGreatDoor
