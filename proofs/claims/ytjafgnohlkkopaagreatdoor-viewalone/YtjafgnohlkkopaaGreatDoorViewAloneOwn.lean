/-
Proved: ViewAlone answers true whatever it is given: what Run of all leaves a tenant is alike, for them, to what Run of theirs alone leaves, and answers them the same.
  Conditions: the three tables of the library that the row lists hold what their initialisers lay; the card ties that to the program's text.
-/
import Derived.Test.YtjafgnohlkkopaaGreatDoorPart35
import Derived.Test.YtjafgnohlkkopaaGreatDoorCards
import Derived.Test.YtjafgnohlkkopaaGreatDoorTie
import Derived.ShutString
import Derived.ChangeOld
import Derived.ChangeMaps5
import Derived.JoinedAt
namespace Go.Proofs.YtjafgnohlkkopaaGreatDoor.viewAlone
open Go.ChangeShapes Go.WideShapes Go.ChangeAt Go.RowKit Go.Deep
set_option linter.unusedVariables false

theorem own : ownKnob Tryz.prog.godebug = none := by kernel_rfl
theorem laidOut : laidOutB Tryz.prog = true := by kernel_rfl

set_option maxRecDepth 100000 in
theorem lifted (os : Os) (started : os.Started) (H : Type) (enc : TypeId × Value → H) :
    ReturnsInHanded {} Tryz.checked os 6 .any (fun w args => (Rows.viewAloneSpec.pre enc Tryz.prog Tryz.f6 Rows.viewAloneRow.domain false w args ∧ laidMet Tryz.prog Rows.viewAloneRow.laid w) ∧ sizedMet enc Tryz.prog Tryz.f6 (OpenSpec.ofChange Rows.viewAloneSpec) false w args) (Rows.viewAloneSpec.post enc Tryz.prog Tryz.f6 false true false false) := by
  refine returnsInHanded_of_change_and (C := Tryz.checked) (X := fun w _ => laidMet Tryz.prog Rows.viewAloneRow.laid w) (fun _ _ _ hh h => h.of_heap hh) own started (by kernel_rfl) Tryz.func6
    (ChangeSpec.witness_at (enc := enc) (C := Tryz.checked) (os := os) (X := fun w _ => laidMet Tryz.prog Rows.viewAloneRow.laid w) false (laidWorld os) #[.agg #[.slice none 0 0, .slice none 0 0], .slice none 0 0, .slice none 0 0, .int .i64 0] 8 rfl (by kernel_rfl) (by kernel_rfl) (by kernel_rfl) (by kernel_rfl) (by kernel_rfl) (laid_met os _)) ?_
  intro W base args ds gs before hval0 hW _ hsz hL _
  have hval : ∀ (j : Nat) t v, Tryz.f6.params[j]? = some t → args[j]? = some v → Value.okWide Tryz.prog W .any base t v := hval0
  have hW' := hW
  obtain ⟨p, q, hA0, hV, rfl, hfz, hnd⟩ := hW
  have hA : DataW.TrodAll enc Tryz.prog W 0 (fun _ => true) true Tryz.f6.params.toList args.toList ds p := hA0
  have htab := tab_of hL
  rw [Tryz.params6] at hA hval
  obtain ⟨v0, vs0, d0, ds0, p0, q0, hargs, rfl, rfl, h0, r0⟩ := trodAll_cons hA
  obtain ⟨v1, vs1, d1, ds1, p1, q1, rfl, rfl, rfl, h1, r1⟩ := trodAll_cons r0
  obtain ⟨v2, vs2, d2, ds2, p2, q2, rfl, rfl, rfl, h2, r2⟩ := trodAll_cons r1
  obtain ⟨v3, vs3, d3, ds3, p3, q3, rfl, rfl, rfl, h3, r3⟩ := trodAll_cons r2
  obtain ⟨rfl, rfl, rfl⟩ := trodAll_nil r3
  obtain rfl : args = #[v0, v1, v2, v3] := by cases args; simp_all
  obtain ⟨rfl, rfl⟩ := trodVars_none hV
  have lt0 : ∀ x ∈ p0, x.block < W.heap.size := by obtain ⟨m, hm⟩ := h0; exact DataW.trod_lt m _ _ _ hm
  have lt1 : ∀ x ∈ p1, x.block < W.heap.size := by obtain ⟨m, hm⟩ := h1; exact DataW.trod_lt m _ _ _ hm
  have lt2 : ∀ x ∈ p2, x.block < W.heap.size := by obtain ⟨m, hm⟩ := h2; exact DataW.trod_lt m _ _ _ hm
  obtain ⟨a0, n0, c0, B0, ta0, tn0, tc0, l0, rfl, hP0⟩ := pool_open (hval 0 27 v0 rfl rfl) h0
  obtain ⟨a1', n1', c1', rfl⟩ := okWide_slice Tryz.underlying36 (hval 1 36 v1 rfl rfl)
  obtain ⟨f1, hf1⟩ := h1
  have hf1' : DataW.trod enc Tryz.prog W 0 (fun _ => true) true f1 36 [.slice a1' n1' c1'] = some (d1, p1) := hf1
  obtain ⟨a1, n1, c1, l1, he1, hc1, hm1, hN1⟩ := nums_open (v := .slice a1' n1' c1') Tryz.underlying36 Tryz.underlying3 (by kernel_rfl) hf1'
  cases he1
  obtain ⟨a2, n2, c2, l2, rfl, hc2, hm2, hL2⟩ := asks_open (hval 2 37 v2 rfl rfl) h2
  have hg2 := asks_reach h2 (fun k hk => of_decide_eq_true (List.all_eq_true.1 hsz k (DataW.weights_mem_each (j := 2) (t := 37) rfl rfl k hk))) hL2
  obtain ⟨x3, rfl, rfl, rfl, wx3⟩ := open_int Tryz.underlying3 (hval 3 3 v3 rfl rfl) h3
  have hx3 := bounds_i64 wx3
  clear hA0 hval0
  refine (viewAlone_walk a0 n0 c0 B0 ta0 tn0 tc0 l0 a1' n1' c1' l1 a2 n2 c2 l2 x3 W hP0 hc1 (Nat.le_trans hc1 hm1) hN1 hc2 hm2 hL2 hg2 hx3 htab).mono fun e W' ⟨he, bel⟩ => ?_
  subst he
  exact ⟨_, rfl, _, _, _, [], _, [], hW', trodAll_mk1 (shut_bool Tryz.underlying4 _), (trodAll_cons_mk (Below.trod laidOut (by kernel_rfl) (of_decide_eq_true (by kernel_rfl)) h0 bel lt0) (trodAll_cons_mk (Below.trod laidOut (by kernel_rfl) (of_decide_eq_true (by kernel_rfl)) ⟨f1, hf1⟩ bel lt1) (trodAll_cons_mk (Below.trod laidOut (by kernel_rfl) (of_decide_eq_true (by kernel_rfl)) h2 bel lt2) (trodAll_cons_mk (shut_int Tryz.underlying3 wx3) trodAll_mk0)))), rfl, bel.frame _, fun h => by cases h⟩

theorem over : Rows.viewAloneRow.holds Tryz.pinned (OpenSpec.ofChange Rows.viewAloneSpec) :=
  OpenClaim.holds_of_wide 6 Tryz.f6 rfl rfl rfl rfl rfl rfl rfl ⟨rfl, rfl, rfl, rfl, rfl⟩ rfl rfl rfl rfl rfl (by kernel_rfl) Tryz.func6 (by kernel_rfl)
    (of_decide_eq_true (by kernel_rfl)) (by unfold Func.isWrapper; first | (rw [if_pos (by decide +kernel)]; kernel_rfl) | (rw [if_neg (by decide +kernel)]; exact ⟨rfl, rfl⟩))
    (fun os started H enc _ => lifted os started H enc)

/-- the card -/
theorem proved : Rows.ViewAloneCardSaid :=
  Claim7.holds_tied_plain_at .later [] [.data, .data, .data] true Rows.viewAloneCard.stood.harness false
    over (fun _ h => by cases h) (by kernel_rfl) (fun _ h => by cases h) viewAlone_row_tie rfl ⟨rfl, rfl⟩ (by kernel_rfl) rfl
    (fun f fn hf hfn => by
      obtain rfl : f = 6 := Option.some.inj ((show Tryz.prog.funcNamed Rows.viewAloneRow.func = some 6 by kernel_rfl).symm.trans hf) |>.symm
      obtain rfl : fn = Tryz.f6 := (Option.some.inj (Tryz.func6.symm.trans hfn)).symm
      refine ⟨by kernel_rfl, fun j t ht => ?_⟩
      rw [Tryz.params6] at ht
      match j, ht with
      | 0, ht => obtain rfl : t = 27 := by simpa using ht.symm
                 exact (show Tryz.prog.wantsStandIn 27 = false by kernel_rfl)
      | 1, ht => obtain rfl : t = 36 := by simpa using ht.symm
                 exact (show Tryz.prog.wantsStandIn 36 = false by kernel_rfl)
      | 2, ht => obtain rfl : t = 37 := by simpa using ht.symm
                 exact (show Tryz.prog.wantsStandIn 37 = false by kernel_rfl)
      | 3, ht => obtain rfl : t = 3 := by simpa using ht.symm
                 exact (show Tryz.prog.wantsStandIn 3 = false by kernel_rfl)
      | j + 4, ht => simp at ht)
    (by kernel_rfl)
#print axioms proved
end Go.Proofs.YtjafgnohlkkopaaGreatDoor.viewAlone

namespace Go.Proofs.YtjafgnohlkkopaaGreatDoor
theorem viewAlone_holds : Rows.ViewAloneCardSaid := viewAlone.proved
end Go.Proofs.YtjafgnohlkkopaaGreatDoor
