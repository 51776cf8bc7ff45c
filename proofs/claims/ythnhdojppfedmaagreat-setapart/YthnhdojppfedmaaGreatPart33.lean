/-
  SameX in one text. Nothing here is trusted.
-/
import Derived.Test.YthnhdojppfedmaaGreatPart23
import Derived.Test.YthnhdojppfedmaaGreatPart04
import Derived.Laws.StructEq
import Derived.Deep.RegionHeld3
set_option linter.unusedVariables false
namespace Go.Proofs.YthnhdojppfedmaaGreat
open Go.RowKit

set_option maxHeartbeats 2000000 in
set_option maxRecDepth 100000 in
theorem equalE_same (Q R : Nat → Prop) (fa ga : Option Addr) (fn fc gn gc : Nat) (l : List Ent) (w : World) (hn : fn ≤ 6) (hf : EntsAt Q w fa fn l) (hg : EntsAt R w ga gn l) :
    Calls Tryz.prog 11 #[.slice fa fn fc, .slice ga gn gc] w fun e w' => e = .returned (.bool true) ∧ Below w.heap.size w w' := by
  obtain rfl : gn = fn := by rw [← hg.1, hf.1]
  replace hf := hid hf
  replace hg := hid hg
  go_enter Tryz.func11, Tryz.ntmps11
  go_wp2_with fail
  go_loopw [13] (fun v wr => ∃ i : Nat, i ≤ gn ∧ v = .int .i64 i ∧ Below w.heap.size w wr) (fun v _ => gn - (Go.RowKit.intOf v).toNat)
  case atStart => exact ⟨0, Nat.zero_le _, rfl, Below.refl _ _⟩
  case round =>
    obtain ⟨i, hin, rfl, hbel⟩ := hrel
    by_cases hlt : i < gn
    · obtain ⟨b1, o1, rfl, hb1, _, hB1⟩ := hf.out.2.2 (by omega)
      obtain ⟨b2, o2, rfl, hb2, _, hB2⟩ := hg.out.2.2 (by omega)
      have x1 := hB1 i hlt
      have x2 := hB2 i hlt
      have c0 := (hbel.cell (p := ⟨b1, o1 + i * 3, none⟩) hb1).trans x1.c0
      have c1 := (hbel.cell (p := ⟨b1, o1 + i * 3 + 1, none⟩) hb1).trans x1.c1
      have c2 := (hbel.cell (p := ⟨b1, o1 + i * 3 + 2, none⟩) hb1).trans x1.c2
      have d0 := (hbel.cell (p := ⟨b2, o2 + i * 3, none⟩) hb2).trans x2.c0
      have d1 := (hbel.cell (p := ⟨b2, o2 + i * 3 + 1, none⟩) hb2).trans x2.c1
      have d2 := (hbel.cell (p := ⟨b2, o2 + i * 3 + 2, none⟩) hb2).trans x2.c2
      have hi1 : (i : Int) < (gn : Int) := by omega
      have hi0 : (0 : Int) ≤ (i : Int) := by omega
      clear x1 x2 hB1 hB2 hf hg
      generalize l.getD i Ent.zero = K at *
      have hbd := hbel.trans (below_drew _ wr)
      go_upto_region 6 with fail
      go_region_held3 (fun w' => w'.cell? ⟨b1, o1 + i * 3, none⟩ = some (.string K.name) ∧ w'.cell? ⟨b1, o1 + i * 3 + 1, none⟩ = some (.int .i64 K.root) ∧ w'.cell? ⟨b1, o1 + i * 3 + 2, none⟩ = some (.int .i64 K.size) ∧ w'.cell? ⟨b2, o2 + i * 3, none⟩ = some (.string K.name) ∧ w'.cell? ⟨b2, o2 + i * 3 + 1, none⟩ = some (.int .i64 K.root) ∧ w'.cell? ⟨b2, o2 + i * 3 + 2, none⟩ = some (.int .i64 K.size)) (first | go_keep | assumption) (first | fail)
      all_goals (
        clear c0 c1 c2 d0 d1 d2
        go_wp2_with fail
        go_roundw
        case rel => exact ⟨i + 1, by omega, by go_num, by first | exact hbel | exact hbd⟩
        case measure => simp [Go.RowKit.intOf]; omega)
    · obtain rfl : i = gn := by omega
      go_wp2_with fail
      go_ret
      exact ⟨rfl, hbel⟩

set_option maxHeartbeats 1000000 in
set_option maxRecDepth 100000 in
theorem sameSnap_true (Q R : Nat → Prop) (nm : ByteArray) (fa ga : Option Addr) (fn fc gn gc : Nat) (l : List Ent) (w : World) (hn : fn ≤ 6) (hf : EntsAt Q w fa fn l) (hg : EntsAt R w ga gn l) :
    Calls Tryz.prog 42 #[.agg #[.string nm, .slice fa fn fc], .agg #[.string nm, .slice ga gn gc]] w fun e w' => e = .returned (.bool true) ∧ Below w.heap.size w w' := by
  have b0 := below_two w (.cells #[.string nm, .slice fa fn fc] 81) (.cells #[.string nm, .slice ga gn gc] 81)
  replace hf := hid (hf.below b0)
  replace hg := hid (hg.below b0)
  go_enter Tryz.func42, Tryz.ntmps42
  go_wp2_with fail
  refine (equalE_same Q R fa ga fn fc gn gc l _ hn hf.out hg.out).mono ?_
  rintro e w1 ⟨rfl, b1⟩
  replace b1 := Below.tr b0 b1
  go_wp2_with fail
  go_ret
  exact ⟨rfl, b1⟩

set_option maxHeartbeats 2000000 in
set_option maxRecDepth 100000 in
theorem equalS_same (Q R : Nat → Prop) (fa ga : Option Addr) (fn fc gn gc : Nat) (l : List SnapE) (w : World) (hn : fn ≤ 3) (h6 : ∀ s ∈ l, s.files.length ≤ 6) (hf : SnapsAt Q w fa fn l) (hg : SnapsAt R w ga gn l) :
    Calls Tryz.prog 41 #[.slice fa fn fc, .slice ga gn gc, .func (.func 42) #[] #[]] w fun e w' => e = .returned (.bool true) ∧ Below w.heap.size w w' := by
  obtain rfl : gn = fn := by rw [← hg.1, hf.1]
  replace hf := hid hf
  replace hg := hid hg
  replace h6 := hid h6
  go_enter Tryz.func41, Tryz.ntmps41
  go_wp2_with fail
  go_loopw [17] (fun v wr => ∃ i : Nat, i ≤ gn ∧ v = .int .i64 i ∧ Below w.heap.size w wr) (fun v _ => gn - (Go.RowKit.intOf v).toNat)
  case atStart => exact ⟨0, Nat.zero_le _, rfl, Below.refl _ _⟩
  case round =>
    obtain ⟨i, hin, rfl, hbel⟩ := hrel
    by_cases hlt : i < gn
    · obtain ⟨b1, o1, rfl, hb1, _, hB1⟩ := hf.out.2 (by omega)
      obtain ⟨b2, o2, rfl, hb2, _, hB2⟩ := hg.out.2 (by omega)
      obtain ⟨ka, kn, kc, x1⟩ := hB1 i hlt
      obtain ⟨ka', kn', kc', x2⟩ := hB2 i hlt
      have hil : i < l.length := by rw [hf.out.1]; exact hlt
      have h6' : (l.getD i SnapE.zero).files.length ≤ 6 := h6.out _ (by simp [List.getD, hil])
      have hk6 : kn ≤ 6 := by rw [← x1.files.1]; exact h6'
      have c0 := (hbel.cell (p := ⟨b1, o1 + i * 2, none⟩) hb1).trans x1.c0
      have c1 := (hbel.cell (p := ⟨b1, o1 + i * 2 + 1, none⟩) hb1).trans x1.c1
      have d0 := (hbel.cell (p := ⟨b2, o2 + i * 2, none⟩) hb2).trans x2.c0
      have d1 := (hbel.cell (p := ⟨b2, o2 + i * 2 + 1, none⟩) hb2).trans x2.c1
      have g0 : ∀ o k, (wr.alloc o).cell? ⟨b2, k, none⟩ = wr.cell? ⟨b2, k, none⟩ := fun o k => World.cell?_alloc_past _ _ _ (Nat.lt_of_lt_of_le hb2 hbel.size)
      have bA := below_two wr (.cells #[.string (l.getD i SnapE.zero).name, .slice ka kn kc] 81) (.cells #[.string (l.getD i SnapE.zero).name, .slice ka' kn' kc'] 81)
      have hk := hid ((x1.files.below hbel).below bA)
      have hk' := hid ((x2.files.below hbel).below bA)
      replace bA := Below.tr hbel bA
      clear x1 x2 hB1 hB2 hf hg h6' hil
      generalize l.getD i SnapE.zero = K at *
      go_wp2_with fail
      generalize (wr.alloc (.cells #[.string K.name, .slice ka kn kc] 81)).alloc (.cells #[.string K.name, .slice ka' kn' kc'] 81) = wA at *
      refine (sameSnap_true Q R K.name ka ka' kn kc kn' kc' K.files wA hk6 hk.out hk'.out).mono ?_
      rintro e w1 ⟨rfl, bB⟩
      replace bB := Below.tr bA bB
      clear c0 c1 d0 d1 g0 hk hk' bA
      go_wp2_with fail
      go_roundw
      case rel => exact ⟨i + 1, by omega, by go_num, bB⟩
      case measure => simp [Go.RowKit.intOf]; omega
    · obtain rfl : i = gn := by omega
      go_wp2_with fail
      go_ret
      exact ⟨rfl, hbel⟩

set_option maxHeartbeats 2000000 in
set_option maxRecDepth 100000 in
theorem sameSet_true (Q R : Nat → Prop) (u v : SetV) (x : SetE) (w : World) (hs : Shape x) (hu : SetAt Q w u x) (hv : SetAt R w v x) :
    Calls Tryz.prog 16 #[.agg #[.string u.name, .slice u.fa u.fn u.fc, .slice u.sa u.sn u.sc], .agg #[.string v.name, .slice v.fa v.fn v.fc, .slice v.sa v.sn v.sc]] w fun e w' => e = .returned (.bool true) ∧ Below w.heap.size w w' := by
  rw [hu.name, hv.name]
  have b0 := below_two w (.cells #[.string x.name, .slice u.fa u.fn u.fc, .slice u.sa u.sn u.sc] 28) (.cells #[.string x.name, .slice v.fa v.fn v.fc, .slice v.sa v.sn v.sc] 28)
  have k0 : CellsAt _ w.heap.size #[.string x.name, .slice u.fa u.fn u.fc, .slice u.sa u.sn u.sc] 28 := (cellsAt_alloc w _ _).below (below_alloc _ (.cells #[.string x.name, .slice v.fa v.fn v.fc, .slice v.sa v.sn v.sc] 28))
  have k1 := cellsAt_alloc2 w (.cells #[.string x.name, .slice u.fa u.fn u.fc, .slice u.sa u.sn u.sc] 28) #[.string x.name, .slice v.fa v.fn v.fc, .slice v.sa v.sn v.sc] 28
  have hfn : u.fn ≤ 6 := by rw [← hu.files.1]; exact hs.few
  have hsn : u.sn ≤ 3 := by rw [← hu.snaps.1]; exact hs.fewS
  replace hu := hid (hu.below b0)
  replace hv := hid (hv.below b0)
  replace hs := hid hs
  replace k0 := hid k0
  replace k1 := hid k1
  go_enter Tryz.func16, Tryz.ntmps16
  go_wp2_with fail
  generalize (w.alloc (.cells #[.string x.name, .slice u.fa u.fn u.fc, .slice u.sa u.sn u.sc] 28)).alloc (.cells #[.string x.name, .slice v.fa v.fn v.fc, .slice v.sa v.sn v.sc] 28) = w0 at *
  refine (equalE_same Q R u.fa v.fa u.fn u.fc v.fn v.fc x.files w0 hfn hu.out.files hv.out.files).mono ?_
  rintro e w1 ⟨rfl, b1⟩
  have s2 := (k0.out.below b1).cell 2
  have t2 := (k1.out.below b1).cell 2
  simp at s2 t2
  go_wp2_with fail
  refine (equalS_same Q R u.sa v.sa u.sn u.sc v.sn v.sc x.snaps w1 hsn (fun s h => (hs.out.filesS s h).1) (hu.out.snaps.below b1) (hv.out.snaps.below b1)).mono ?_
  rintro e w2 ⟨rfl, b2⟩
  have b3 := Below.tr (Below.tr b0 b1) b2
  clear s2 t2 b2 b1 b0
  go_wp2_with fail
  go_ret
  exact ⟨rfl, b3⟩
end Go.Proofs.YthnhdojppfedmaaGreat
