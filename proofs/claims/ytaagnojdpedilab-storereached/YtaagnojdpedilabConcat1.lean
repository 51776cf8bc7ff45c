/-
  Contracts of slices.Grow of nothing and slices.Concat of two slices of ints. Nothing here is trusted.
-/
import Derived.Test.YtaagnojdpedilabReached1
import Derived.Lib.AppendZeros
import Derived.Deep.DeepAppendRoom
import Derived.Laws.AppendOwnNone
set_option linter.unusedVariables false
namespace Go.Proofs.Ytaagnojdpedilab
open Go.RowKit

/-- v, of k elements, has room for m more (or is nothing, and none come) -/
def RoomFor (v : Value) (k m : Nat) : Prop := (v = .slice none 0 0 ∧ m = 0) ∨ ∃ g cap, v = .slice (some ⟨g, 0, none⟩) k cap ∧ k + m ≤ cap

theorem run_append_ints (w : World) (base : Nat) (ty : TypeId) (v : Value) (k : Nat) (xs : List Value) (hv : w.ownsRow base 3 1 v k xs) (xa : Option Addr) (m c : Nat) (ys : List Int) (hN : NumsAt (fun _ => True) .i64 w xa m ys)
    (hx : xa = none → m = 0 ∧ c = 0) (hbase : base ≤ w.heap.size) (room : RoomFor v k m) :
    ∃ v' w', (Builtin.append_ #[25, 25] ty #[v, .slice xa m c]).run Try.prog w = .ok v' w' ∧ w'.ownsRow base 3 1 v' (k + m) (xs ++ ys.map (Value.int .i64)) ∧ w.grownBy w' v.ownBlock ∧ (∀ r, RoomFor v k (m + r) → RoomFor v' (k + m) r) := by
  obtain ⟨i0, hi, hz0, hz1, hz2⟩ := info_parts Try.infoInt
  cases xa with
  | none =>
    obtain ⟨rfl, rfl⟩ := hx rfl
    obtain rfl : ys = [] := List.eq_nil_of_length_eq_zero hN.1
    refine ⟨v, w, run_append_owned_none (P := Try.prog) (w := w) base 25 ty 3 i0 1 Try.underlying25 hi v k xs hv, by simpa using hv, ⟨rfl, rfl, rfl, Nat.le_refl _, fun _ _ _ => rfl⟩, fun r h => by simpa using h⟩
  | some a =>
    have hl : (ys.map (Value.int .i64)).length = m * 1 := by simp [hN.1]
    have hnews : ∀ j u, (ys.map (Value.int .i64))[j]? = some u → w.cell? (a.add j) = some u := by
      intro j u hj
      obtain ⟨hj1, hj2⟩ := List.getElem?_eq_some_iff.1 hj
      have hjm : j < m := by simpa [hN.1] using hj1
      obtain ⟨b, off, ha, _, _, hc⟩ := hN.2.2 (by omega)
      cases ha
      have := hc j hjm
      have hjy : j < ys.length := by rw [hN.1]; exact hjm
      rw [show ((⟨b, off, none⟩ : Addr).add j) = ⟨b, off + j, none⟩ by simp [Addr.add], this, ← hj2]
      simp [List.getD, hjy]
    have h1 : ∀ u ∈ ys.map (Value.int .i64), u.oneCell' = true := by
      intro u hu
      obtain ⟨y, _, rfl⟩ := List.mem_map.1 hu
      rfl
    rcases room with ⟨rfl, rfl⟩ | ⟨g, cap, rfl, hroom⟩
    · have hk : k = 0 := by
        rcases hv.2 with ⟨_, h⟩ | ⟨_, _, _, h, _⟩
        · exact h
        · cases h
      subst hk
      obtain ⟨v', w', hr, ho, hg, hn⟩ := run_append_own (P := Try.prog) w base 25 ty 3 i0 (.int .i64 0) 1 8 Try.underlying25 hi hz0 hz1 hz2 rfl (by decide) _ 0 xs hv a 0 c _ hl hnews h1 (by unfold maxLen; omega) (by omega) hbase
      refine ⟨v', w', hr, ho, hg, fun r h => ?_⟩
      rcases h with ⟨_, h⟩ | ⟨_, _, h, _⟩
      · exact .inl ⟨hn.2 ⟨rfl, rfl⟩, by omega⟩
      · cases h
    · obtain ⟨w', hr, ho, hg⟩ := run_append_own_spare (P := Try.prog) w base 25 ty 3 i0 1 Try.underlying25 hi hz1 g k cap xs hv a m c _ hl hnews h1 hroom
      refine ⟨_, w', hr, ho, hg, fun r h => ?_⟩
      rcases h with ⟨h, _⟩ | ⟨g', cap', h, hh⟩
      · cases h
      · cases h
        exact .inr ⟨g, cap, rfl, by omega⟩

/-- what Grow of nothing answers -/
def RetG (base : Nat) (e : Ending) (w : World) (n : Nat) : Prop := ∃ v, e = .returned v ∧ RoomFor v 0 n ∧ w.ownsRow base 3 1 v 0 []

set_option maxHeartbeats 1000000 in
set_option maxRecDepth 100000 in
theorem grow_any (n : Nat) (w : World) (hb : n * 8 ≤ 281474976710656) :
    Calls Try.prog 55 #[.slice none 0 0, .int .i64 n] w fun e w' => RetG w.heap.size e w' n ∧ Below w.heap.size w w' := by
  obtain ⟨i0, hi, hz0, hz1, hz2⟩ := info_parts Try.infoInt
  by_cases h0 : n = 0
  · subst h0
    go_enter Try.func55, Try.ntmps55
    go_wp2_with fail
    go_ret
    exact ⟨⟨_, rfl, .inl ⟨rfl, rfl⟩, World.ownsRow_nil _ _ _ _⟩, Below.refl _ _⟩
  · have h1 : 0 < (n : Int) := by omega
    have h2 : ¬ ((n : Int) < 0) := by omega
    have hrz := fun ty => Lib.run_append_nil_zeros (P := Try.prog) w 25 3 ty 3 i0 (.int .i64 0) .i64 .i64 Try.underlying25 Try.underlying3 hi hz0 n (by omega) (by rw [hz1]; decide) (by omega) (by rw [hz2]; exact hb)
    have hge := grownCap_ge w n 0 3
    have hle := grownCap_le_maxLen w n 0 3 (by unfold maxLen; omega)
    generalize grownCap w n 0 3 = cap at *
    have hle' : cap ≤ 9223372036854775807 := by unfold maxLen at hle; omega
    go_enter Try.func55, Try.ntmps55
    go_wp2_with (at_builtin; refine Lib.wpList_append_run _ rfl _ _ _ _ rfl _ _ rfl rfl _ _ (hrz _) ?_)
    go_ret
    exact ⟨⟨_, rfl, .inr ⟨_, cap, rfl, by omega⟩, World.ownsRow_made w.drew _ cap (Nat.le_refl _) hle (by simp [Builtin.zeroCells]; omega)⟩, (Below.refl _ _).drew.alloc (Nat.le_refl _) _⟩

/-- what Concat answers -/
def RetC (base : Nat) (e : Ending) (w : World) (L : List Int) : Prop := ∃ v, e = .returned v ∧ ListAt base w v L

set_option maxHeartbeats 2000000 in
set_option maxRecDepth 100000 in
theorem concat_any (sb : Nat) (ra : Option Addr) (rn rc : Nat) (rs : List Int) (ma : Option Addr) (mn mc : Nat) (ms : List Int) (w : World) (hsb : sb < w.heap.size) (c0 : w.cell? ⟨sb, 0, none⟩ = some (.slice ra rn rc)) (c1 : w.cell? ⟨sb, 1, none⟩ = some (.slice ma mn mc))
    (hr : NumsAt (fun _ => True) .i64 w ra rn rs) (hm : NumsAt (fun _ => True) .i64 w ma mn ms) (hrn : ra = none → rn = 0 ∧ rc = 0) (hmn : ma = none → mn = 0 ∧ mc = 0) (hb : (rn + mn) * 8 ≤ 281474976710656) :
    Calls Try.prog 22 #[.slice (some ⟨sb, 0, none⟩) 2 2] w fun e w' => RetC w.heap.size e w' (rs ++ ms) ∧ Below w.heap.size w w' := by
  replace hr := hid hr
  replace hm := hid hm
  replace hrn := hid hrn
  replace hmn := hid hmn
  have n1 : ¬ ((rn : Int) < 0) := by omega
  have n2 : ¬ ((rn : Int) + (mn : Int) < 0) := by omega
  have n3 : (rn : Int) + (mn : Int) ≤ 9223372036854775807 := by omega
  go_enter Try.func22, Try.ntmps22
  go_wp2_with fail
  go_loopw [3, 11] (fun s u wr => w = wr ∧ ((s = .int .i64 0 ∧ u = .int .i64 0) ∨ (s = .int .i64 rn ∧ u = .int .i64 1) ∨ (s = .int .i64 ((rn + mn : Nat) : Int) ∧ u = .int .i64 2))) (fun _ u _ => 2 - (Go.RowKit.intOf u).toNat)
  case atStart => exact ⟨rfl, .inl ⟨rfl, rfl⟩⟩
  case round =>
    obtain ⟨rfl, ⟨rfl, rfl⟩ | ⟨rfl, rfl⟩ | ⟨rfl, rfl⟩⟩ := hrel
    · go_wp2_with fail
      go_roundw
      case rel => exact ⟨trivial, .inr (.inl ⟨by go_num, by go_num⟩)⟩
      case measure => simp [Go.RowKit.intOf]
    · go_wp2_with fail
      go_roundw
      case rel => exact ⟨trivial, .inr (.inr ⟨by go_num, by go_num⟩)⟩
      case measure => simp [Go.RowKit.intOf]
    · replace c0 := hid c0
      replace c1 := hid c1
      go_wp2_with fail
      refine (grow_any (rn + mn) w hb).mono ?_
      rintro e w1 ⟨⟨v, rfl, hroom, hown⟩, b1⟩
      replace hroom := hid hroom
      replace hown := hid hown
      go_wp2_with fail
      go_loopw [6, 27] (fun v u wr => Below w.heap.size w wr ∧ ∃ (k : Nat) (zs : List Int), wr.ownsRow w.heap.size 3 1 v k (zs.map (Value.int .i64)) ∧ ((u = .int .i64 0 ∧ k = 0 ∧ zs = [] ∧ RoomFor v 0 (rn + mn)) ∨ (u = .int .i64 1 ∧ k = rn ∧ zs = rs ∧ RoomFor v rn mn) ∨ (u = .int .i64 2 ∧ k = rn + mn ∧ zs = rs ++ ms))) (fun _ u _ => 2 - (Go.RowKit.intOf u).toNat)
      case atStart => exact ⟨b1, 0, [], hown.out, .inl ⟨rfl, rfl, rfl, hroom.out⟩⟩
      case round =>
        clear hroom hown b1
        obtain ⟨bel, k, zs, hown, ⟨rfl, rfl, rfl, room⟩ | ⟨rfl, rfl, rfl, room⟩ | ⟨rfl, rfl, rfl⟩⟩ := hrel
        · have d0 := (bel.cell (p := ⟨sb, 0, none⟩) hsb).trans c0.out
          obtain ⟨v', w', hrun, hown', hg, hrm⟩ := run_append_ints wr w.heap.size 25 _ 0 _ hown ra rn rc rs (hr.out.below bel) hrn.out bel.size (by
            rcases room with ⟨h1, h2⟩ | ⟨g, cap, h1, h2⟩
            · exact .inl ⟨h1, by omega⟩
            · exact .inr ⟨g, cap, h1, by omega⟩)
          have bel' := bel.grown hg bel.size (fun k' hk' => (hown.lt k' hk').1)
          have hrm' := hid (hrm mn room)
          replace hown' := hid hown'
          replace bel' := hid bel'
          clear hown hg room hrm
          go_wp2_with (at_builtin; refine Lib.wpList_append_run _ rfl _ _ _ _ rfl _ _ rfl rfl _ _ hrun ?_)
          go_roundw
          case rel => exact ⟨bel'.out, rn, rs, by simpa using hown'.out, .inr (.inl ⟨by go_num, rfl, rfl, by simpa using hrm'.out⟩)⟩
          case measure => simp [Go.RowKit.intOf]
        · have d1 := (bel.cell (p := ⟨sb, 1, none⟩) hsb).trans c1.out
          obtain ⟨v', w', hrun, hown', hg, hrm⟩ := run_append_ints wr w.heap.size 25 _ _ _ hown ma mn mc ms (hm.out.below bel) hmn.out bel.size room
          have bel' := bel.grown hg bel.size (fun k' hk' => (hown.lt k' hk').1)
          replace hown' := hid hown'
          replace bel' := hid bel'
          clear hown hg room hrm
          go_wp2_with (at_builtin; refine Lib.wpList_append_run _ rfl _ _ _ _ rfl _ _ rfl rfl _ _ hrun ?_)
          go_roundw
          case rel => exact ⟨bel'.out, _, zs ++ ms, by simpa using hown'.out, .inr (.inr ⟨by go_num, rfl, rfl⟩)⟩
          case measure => simp [Go.RowKit.intOf]
        · replace hown := hid hown
          replace bel := hid bel
          go_wp2_with fail
          go_ret
          refine ⟨⟨_, rfl, ?_, fun x hx => ?_⟩, bel.out⟩
          · have e1 : (rs ++ ms).length = rn + mn := by rw [List.length_append, hr.out.1, hm.out.1]
            rw [e1]
            exact hown.out
          · rcases List.mem_append.1 hx with h | h
            · exact hr.out.2.1 x h
            · exact hm.out.2.1 x h

end Go.Proofs.Ytaagnojdpedilab
