/-
Proved: PoolApart answers true whatever it is given: of two scripts that differ in others' asks alone, in how many and where, all that one asks is answered the same, and what is left them is alike.
  Conditions: the three tables of the library that the row lists hold what their initialisers lay; the card ties that to the program's text.
-/
import Derived.Test.YtjafgnohlkkopaaGreatDoorPartP4
import Derived.Test.YtjafgnohlkkopaaGreatDoorPartP3
import Derived.Test.YtjafgnohlkkopaaGreatDoorCards
import Derived.Test.YtjafgnohlkkopaaGreatDoorTie
import Derived.ShutString
import Derived.ChangeOld
import Derived.ChangeMaps5
import Derived.JoinedAt
namespace Go.Proofs.YtjafgnohlkkopaaGreatDoor.poolApart
open Go.ChangeShapes Go.WideShapes Go.ChangeAt Go.RowKit Go.Deep
set_option linter.unusedVariables false

theorem own : ownKnob Tryz.prog.godebug = none := by kernel_rfl
theorem laidOut : laidOutB Tryz.prog = true := by kernel_rfl

set_option maxRecDepth 100000 in
theorem lifted (os : Os) (started : os.Started) (H : Type) (enc : TypeId × Value → H) :
    ReturnsInHanded {} Tryz.checked os 5 .any (fun w args => (Rows.poolApartSpec.pre enc Tryz.prog Tryz.f5 Rows.poolApartRow.domain false w args ∧ laidMet Tryz.prog Rows.poolApartRow.laid w) ∧ sizedMet enc Tryz.prog Tryz.f5 (OpenSpec.ofChange Rows.poolApartSpec) false w args) (Rows.poolApartSpec.post enc Tryz.prog Tryz.f5 false true false false) := by
  refine returnsInHanded_of_change_and (C := Tryz.checked) (X := fun w _ => laidMet Tryz.prog Rows.poolApartRow.laid w) (fun _ _ _ hh h => h.of_heap hh) own started (by kernel_rfl) Tryz.func5
    (ChangeSpec.witness_at (enc := enc) (C := Tryz.checked) (os := os) (X := fun w _ => laidMet Tryz.prog Rows.poolApartRow.laid w) false (laidWorld os) #[.agg #[.slice none 0 0, .slice none 0 0], .int .i64 0, .slice none 0 0, .slice none 0 0, .slice none 0 0, .slice none 0 0] 8 rfl (by kernel_rfl) (by kernel_rfl) (by kernel_rfl) (by kernel_rfl) (by kernel_rfl) (laid_met os _)) ?_
  intro W base args ds gs before hval0 hW _ hsz hL _
  have hval : ∀ (j : Nat) t v, Tryz.f5.params[j]? = some t → args[j]? = some v → Value.okWide Tryz.prog W .any base t v := hval0
  have hW' := hW
  obtain ⟨p, q, hA0, hV, rfl, hfz, hnd⟩ := hW
  have hA : DataW.TrodAll enc Tryz.prog W 0 (fun _ => true) true Tryz.f5.params.toList args.toList ds p := hA0
  have htab := tab_of hL
  rw [Tryz.params5] at hA hval
  obtain ⟨v0, vs0, d0, ds0, p0, q0, hargs, rfl, rfl, h0, r0⟩ := trodAll_cons hA
  obtain ⟨v1, vs1, d1, ds1, p1, q1, rfl, rfl, rfl, h1, r1⟩ := trodAll_cons r0
  obtain ⟨v2, vs2, d2, ds2, p2, q2, rfl, rfl, rfl, h2, r2⟩ := trodAll_cons r1
  obtain ⟨v3, vs3, d3, ds3, p3, q3, rfl, rfl, rfl, h3, r3⟩ := trodAll_cons r2
  obtain ⟨v4, vs4, d4, ds4, p4, q4, rfl, rfl, rfl, h4, r4⟩ := trodAll_cons r3
  obtain ⟨v5, vs5, d5, ds5, p5, q5, rfl, rfl, rfl, h5, r5⟩ := trodAll_cons r4
  obtain ⟨rfl, rfl, rfl⟩ := trodAll_nil r5
  obtain rfl : args = #[v0, v1, v2, v3, v4, v5] := by cases args; simp_all
  obtain ⟨rfl, rfl⟩ := trodVars_none hV
  have lt0 : ∀ x ∈ p0, x.block < W.heap.size := by obtain ⟨m, hm⟩ := h0; exact DataW.trod_lt m _ _ _ hm
  have lt2 : ∀ x ∈ p2, x.block < W.heap.size := by obtain ⟨m, hm⟩ := h2; exact DataW.trod_lt m _ _ _ hm
  have lt3 : ∀ x ∈ p3, x.block < W.heap.size := by obtain ⟨m, hm⟩ := h3; exact DataW.trod_lt m _ _ _ hm
  have lt4 : ∀ x ∈ p4, x.block < W.heap.size := by obtain ⟨m, hm⟩ := h4; exact DataW.trod_lt m _ _ _ hm
  have lt5 : ∀ x ∈ p5, x.block < W.heap.size := by obtain ⟨m, hm⟩ := h5; exact DataW.trod_lt m _ _ _ hm
  obtain ⟨a0, n0, c0, B0, ta0, tn0, tc0, l0, rfl, hP0⟩ := pool_open (hval 0 27 v0 rfl rfl) h0
  obtain ⟨x1, rfl, rfl, rfl, wx1⟩ := open_int Tryz.underlying3 (hval 1 3 v1 rfl rfl) h1
  have hx1 := bounds_i64 wx1
  obtain ⟨a2, n2, c2, l2, rfl, hc2, hm2, hL2⟩ := asks_open (hval 2 37 v2 rfl rfl) h2
  obtain ⟨a3', n3', c3', rfl⟩ := okWide_slice Tryz.underlying36 (hval 3 36 v3 rfl rfl)
  obtain ⟨f3, hf3⟩ := h3
  have hf3' : DataW.trod enc Tryz.prog W 0 (fun _ => true) true f3 36 [.slice a3' n3' c3'] = some (d3, p3) := hf3
  obtain ⟨a3, n3, c3, l3, he3, hc3, hm3, hN3⟩ := nums_open (v := .slice a3' n3' c3') Tryz.underlying36 Tryz.underlying3 (by kernel_rfl) hf3'
  cases he3
  obtain ⟨a4, n4, c4, l4, rfl, hc4, hm4, hL4⟩ := asks_open (hval 4 37 v4 rfl rfl) h4
  obtain ⟨a5', n5', c5', rfl⟩ := okWide_slice Tryz.underlying36 (hval 5 36 v5 rfl rfl)
  obtain ⟨f5, hf5⟩ := h5
  have hf5' : DataW.trod enc Tryz.prog W 0 (fun _ => true) true f5 36 [.slice a5' n5' c5'] = some (d5, p5) := hf5
  obtain ⟨a5, n5, c5, l5, he5, hc5, hm5, hN5⟩ := nums_open (v := .slice a5' n5' c5') Tryz.underlying36 Tryz.underlying3 (by kernel_rfl) hf5'
  cases he5
  clear hA0 hval0
  refine (poolApart_walk a0 n0 c0 B0 ta0 tn0 tc0 l0 x1 a2 n2 c2 l2 a3' n3' c3' l3 a4 n4 c4 l4 a5' n5' c5' l5 W hP0 hx1 hc2 hm2 hL2 hc3 (Nat.le_trans hc3 hm3) hN3 hc4 hm4 hL4 hc5 (Nat.le_trans hc5 hm5) hN5 htab).mono fun e W' ⟨he, bel⟩ => ?_
  subst he
  exact ⟨_, rfl, _, _, _, [], _, [], hW', trodAll_mk1 (shut_bool Tryz.underlying4 _), (trodAll_cons_mk (Below.trod laidOut (by kernel_rfl) (of_decide_eq_true (by kernel_rfl)) h0 bel lt0) (trodAll_cons_mk (shut_int Tryz.underlying3 wx1) (trodAll_cons_mk (Below.trod laidOut (by kernel_rfl) (of_decide_eq_true (by kernel_rfl)) h2 bel lt2) (trodAll_cons_mk (Below.trod laidOut (by kernel_rfl) (of_decide_eq_true (by kernel_rfl)) ⟨f3, hf3⟩ bel lt3) (trodAll_cons_mk (Below.trod laidOut (by kernel_rfl) (of_decide_eq_true (by kernel_rfl)) h4 bel lt4) (trodAll_cons_mk (Below.trod laidOut (by kernel_rfl) (of_decide_eq_true (by kernel_rfl)) ⟨f5, hf5⟩ bel lt5) trodAll_mk0)))))), rfl, bel.frame _, fun h => by cases h⟩

theorem over : Rows.poolApartRow.holds Tryz.pinned (OpenSpec.ofChange Rows.poolApartSpec) :=
  OpenClaim.holds_of_wide 5 Tryz.f5 rfl rfl rfl rfl rfl rfl rfl ⟨rfl, rfl, rfl, rfl, rfl⟩ rfl rfl rfl rfl rfl (by kernel_rfl) Tryz.func5 (by kernel_rfl)
    (of_decide_eq_true (by kernel_rfl)) (by unfold Func.isWrapper; first | (rw [if_pos (by decide +kernel)]; kernel_rfl) | (rw [if_neg (by decide +kernel)]; exact ⟨rfl, rfl⟩))
    (fun os started H enc _ => lifted os started H enc)

/-- the card -/
theorem proved : Rows.PoolApartCardSaid :=
  Claim7.holds_tied_plain_at .later [] [.data, .data, .data] true Rows.poolApartCard.stood.harness false
    over (fun _ h => by cases h) (by kernel_rfl) (fun _ h => by cases h) poolApart_row_tie rfl ⟨rfl, rfl⟩ (by kernel_rfl) rfl
    (fun f fn hf hfn => by
      obtain rfl : f = 5 := Option.some.inj ((show Tryz.prog.funcNamed Rows.poolApartRow.func = some 5 by kernel_rfl).symm.trans hf) |>.symm
      obtain rfl : fn = Tryz.f5 := (Option.some.inj (Tryz.func5.symm.trans hfn)).symm
      refine ⟨by kernel_rfl, fun j t ht => ?_⟩
      rw [Tryz.params5] at ht
      match j, ht with
      | 0, ht => obtain rfl : t = 27 := by simpa using ht.symm
                 exact (show Tryz.prog.wantsStandIn 27 = false by kernel_rfl)
      | 1, ht => obtain rfl : t = 3 := by simpa using ht.symm
                 exact (show Tryz.prog.wantsStandIn 3 = false by kernel_rfl)
      | 2, ht => obtain rfl : t = 37 := by simpa using ht.symm
                 exact (show Tryz.prog.wantsStandIn 37 = false by kernel_rfl)
      | 3, ht => obtain rfl : t = 36 := by simpa using ht.symm
                 exact (show Tryz.prog.wantsStandIn 36 = false by kernel_rfl)
      | 4, ht => obtain rfl : t = 37 := by simpa using ht.symm
                 exact (show Tryz.prog.wantsStandIn 37 = false by kernel_rfl)
      | 5, ht => obtain rfl : t = 36 := by simpa using ht.symm
                 exact (show Tryz.prog.wantsStandIn 36 = false by kernel_rfl)
      | j + 6, ht => simp at ht)
    (by kernel_rfl)
#print axioms proved
end Go.Proofs.YtjafgnohlkkopaaGreatDoor.poolApart

namespace Go.Proofs.YtjafgnohlkkopaaGreatDoor
theorem poolApart_holds : Rows.PoolApartCardSaid := poolApart.proved
end Go.Proofs.YtjafgnohlkkopaaGreatDoor
