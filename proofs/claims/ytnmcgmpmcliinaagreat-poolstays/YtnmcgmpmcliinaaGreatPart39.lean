/-
  SameX, SameP, SameR, PoolStaysA, PoolUsesA in one text. Nothing here is trusted.
-/
import Derived.Test.YtnmcgmpmcliinaaGreatPart22
import Derived.Test.YtnmcgmpmcliinaaGreatPart04
import Derived.Laws.StructEq
import Derived.Deep.RegionHeld3
import Derived.Test.YtnmcgmpmcliinaaGreatPart14
import Derived.Test.YtnmcgmpmcliinaaGreatPart15
import Derived.Test.YtnmcgmpmcliinaaGreatPart38
set_option linter.unusedVariables false
namespace Go.Proofs.YtnmcgmpmcliinaaGreat
open Go.RowKit
set_option maxHeartbeats 2000000 in
set_option maxRecDepth 100000 in
theorem equalE_same (Q R : Nat → Prop) (fa ga : Option Addr) (fn fc gn gc : Nat) (l : List Ent) (w : World) (hn : fn ≤ 6) (hf : EntsAt Q w fa fn l) (hg : EntsAt R w ga gn l) :
    Calls Tryz.prog 33 #[.slice fa fn fc, .slice ga gn gc] w fun e w' => e = .returned (.bool true) ∧ Below w.heap.size w w' := by
  obtain rfl : gn = fn := by rw [← hg.1, hf.1]
  replace hf := hid hf
  replace hg := hid hg
  go_enter Tryz.func33, Tryz.ntmps33
  go_wp2_with fail
  go_loopw [13] (fun v wr => ∃ i : Nat, i ≤ gn ∧ v = .int .i64 i ∧ Below w.heap.size w wr) (fun v _ => gn - (Go.RowKit.intOf v).toNat)
  case atStart => exact ⟨0, Nat.zero_le _, rfl, Below.refl _ _⟩
  case round =>
    obtain ⟨i, hin, rfl, hbel⟩ := hrel
    by_cases hlt : i < gn
    · obtain ⟨b1, o1, rfl, hb1, _, hB1⟩ := hf.out.2.2 (by omega)
      obtain ⟨b2, o2, rfl, hb2, _, hB2⟩ := hg.out.2.2 (by omega)
      have x1 := hB1 i hlt
      have x2 := hB2 i hlt
      have c0 := (hbel.cell (p := ⟨b1, o1 + i * 3, none⟩) hb1).trans x1.c0
      have c1 := (hbel.cell (p := ⟨b1, o1 + i * 3 + 1, none⟩) hb1).trans x1.c1
      have c2 := (hbel.cell (p := ⟨b1, o1 + i * 3 + 2, none⟩) hb1).trans x1.c2
      have d0 := (hbel.cell (p := ⟨b2, o2 + i * 3, none⟩) hb2).trans x2.c0
      have d1 := (hbel.cell (p := ⟨b2, o2 + i * 3 + 1, none⟩) hb2).trans x2.c1
      have d2 := (hbel.cell (p := ⟨b2, o2 + i * 3 + 2, none⟩) hb2).trans x2.c2
      have hi1 : (i : Int) < (gn : Int) := by omega
      have hi0 : (0 : Int) ≤ (i : Int) := by omega
      clear x1 x2 hB1 hB2 hf hg
      generalize l.getD i Ent.zero = K at *
      have hbd := hbel.trans (below_drew _ wr)
      go_upto_region 6 with fail
      go_region_held3 (fun w' => w'.cell? ⟨b1, o1 + i * 3, none⟩ = some (.string K.name) ∧ w'.cell? ⟨b1, o1 + i * 3 + 1, none⟩ = some (.int .i64 K.root) ∧ w'.cell? ⟨b1, o1 + i * 3 + 2, none⟩ = some (.int .i64 K.size) ∧ w'.cell? ⟨b2, o2 + i * 3, none⟩ = some (.string K.name) ∧ w'.cell? ⟨b2, o2 + i * 3 + 1, none⟩ = some (.int .i64 K.root) ∧ w'.cell? ⟨b2, o2 + i * 3 + 2, none⟩ = some (.int .i64 K.size)) (first | go_keep | assumption) (first | fail)
      all_goals (
        clear c0 c1 c2 d0 d1 d2
        go_wp2_with fail
        go_roundw
        case rel => exact ⟨i + 1, by omega, by go_num, by first | exact hbel | exact hbd⟩
        case measure => simp [Go.RowKit.intOf]; omega)
    · obtain rfl : i = gn := by omega
      go_wp2_with fail
      go_ret
      exact ⟨rfl, hbel⟩
set_option maxHeartbeats 1000000 in
set_option maxRecDepth 100000 in
theorem sameSnap_true (Q R : Nat → Prop) (nm : ByteArray) (fa ga : Option Addr) (fn fc gn gc : Nat) (l : List Ent) (w : World) (hn : fn ≤ 6) (hf : EntsAt Q w fa fn l) (hg : EntsAt R w ga gn l) :
    Calls Tryz.prog 35 #[.agg #[.string nm, .slice fa fn fc], .agg #[.string nm, .slice ga gn gc]] w fun e w' => e = .returned (.bool true) ∧ Below w.heap.size w w' := by
  have b0 := below_two w (.cells #[.string nm, .slice fa fn fc] 89) (.cells #[.string nm, .slice ga gn gc] 89)
  replace hf := hid (hf.below b0)
  replace hg := hid (hg.below b0)
  go_enter Tryz.func35, Tryz.ntmps35
  go_wp2_with fail
  refine (equalE_same Q R fa ga fn fc gn gc l _ hn hf.out hg.out).mono ?_
  rintro e w1 ⟨rfl, b1⟩
  replace b1 := Below.tr b0 b1
  go_wp2_with fail
  go_ret
  exact ⟨rfl, b1⟩
set_option maxHeartbeats 2000000 in
set_option maxRecDepth 100000 in
theorem equalS_same (Q R : Nat → Prop) (fa ga : Option Addr) (fn fc gn gc : Nat) (l : List SnapE) (w : World) (hn : fn ≤ 3) (h6 : ∀ s ∈ l, s.files.length ≤ 6) (hf : SnapsAt Q w fa fn l) (hg : SnapsAt R w ga gn l) :
    Calls Tryz.prog 34 #[.slice fa fn fc, .slice ga gn gc, .func (.func 35) #[] #[]] w fun e w' => e = .returned (.bool true) ∧ Below w.heap.size w w' := by
  obtain rfl : gn = fn := by rw [← hg.1, hf.1]
  replace hf := hid hf
  replace hg := hid hg
  replace h6 := hid h6
  go_enter Tryz.func34, Tryz.ntmps34
  go_wp2_with fail
  go_loopw [17] (fun v wr => ∃ i : Nat, i ≤ gn ∧ v = .int .i64 i ∧ Below w.heap.size w wr) (fun v _ => gn - (Go.RowKit.intOf v).toNat)
  case atStart => exact ⟨0, Nat.zero_le _, rfl, Below.refl _ _⟩
  case round =>
    obtain ⟨i, hin, rfl, hbel⟩ := hrel
    by_cases hlt : i < gn
    · obtain ⟨b1, o1, rfl, hb1, _, hB1⟩ := hf.out.2 (by omega)
      obtain ⟨b2, o2, rfl, hb2, _, hB2⟩ := hg.out.2 (by omega)
      obtain ⟨ka, kn, kc, x1⟩ := hB1 i hlt
      obtain ⟨ka', kn', kc', x2⟩ := hB2 i hlt
      have hil : i < l.length := by rw [hf.out.1]; exact hlt
      have h6' : (l.getD i SnapE.zero).files.length ≤ 6 := h6.out _ (by simp [List.getD, hil])
      have hk6 : kn ≤ 6 := by rw [← x1.files.1]; exact h6'
      have c0 := (hbel.cell (p := ⟨b1, o1 + i * 2, none⟩) hb1).trans x1.c0
      have c1 := (hbel.cell (p := ⟨b1, o1 + i * 2 + 1, none⟩) hb1).trans x1.c1
      have d0 := (hbel.cell (p := ⟨b2, o2 + i * 2, none⟩) hb2).trans x2.c0
      have d1 := (hbel.cell (p := ⟨b2, o2 + i * 2 + 1, none⟩) hb2).trans x2.c1
      have g0 : ∀ o k, (wr.alloc o).cell? ⟨b2, k, none⟩ = wr.cell? ⟨b2, k, none⟩ := fun o k => World.cell?_alloc_past _ _ _ (Nat.lt_of_lt_of_le hb2 hbel.size)
      have bA := below_two wr (.cells #[.string (l.getD i SnapE.zero).name, .slice ka kn kc] 89) (.cells #[.string (l.getD i SnapE.zero).name, .slice ka' kn' kc'] 89)
      have hk := hid ((x1.files.below hbel).below bA)
      have hk' := hid ((x2.files.below hbel).below bA)
      replace bA := Below.tr hbel bA
      clear x1 x2 hB1 hB2 hf hg h6' hil
      generalize l.getD i SnapE.zero = K at *
      go_wp2_with fail
      generalize (wr.alloc (.cells #[.string K.name, .slice ka kn kc] 89)).alloc (.cells #[.string K.name, .slice ka' kn' kc'] 89) = wA at *
      refine (sameSnap_true Q R K.name ka ka' kn kc kn' kc' K.files wA hk6 hk.out hk'.out).mono ?_
      rintro e w1 ⟨rfl, bB⟩
      replace bB := Below.tr bA bB
      clear c0 c1 d0 d1 g0 hk hk' bA
      go_wp2_with fail
      go_roundw
      case rel => exact ⟨i + 1, by omega, by go_num, bB⟩
      case measure => simp [Go.RowKit.intOf]; omega
    · obtain rfl : i = gn := by omega
      go_wp2_with fail
      go_ret
      exact ⟨rfl, hbel⟩
set_option maxHeartbeats 2000000 in
set_option maxRecDepth 100000 in
theorem sameSet_true (Q R : Nat → Prop) (u v : SetV) (x : SetE) (w : World) (hs : Shape x) (hu : SetAt Q w u x) (hv : SetAt R w v x) :
    Calls Tryz.prog 12 #[.agg #[.string u.name, .slice u.fa u.fn u.fc, .slice u.sa u.sn u.sc], .agg #[.string v.name, .slice v.fa v.fn v.fc, .slice v.sa v.sn v.sc]] w fun e w' => e = .returned (.bool true) ∧ Below w.heap.size w w' := by
  rw [hu.name, hv.name]
  have b0 := below_two w (.cells #[.string x.name, .slice u.fa u.fn u.fc, .slice u.sa u.sn u.sc] 47) (.cells #[.string x.name, .slice v.fa v.fn v.fc, .slice v.sa v.sn v.sc] 47)
  have k0 : CellsAt _ w.heap.size #[.string x.name, .slice u.fa u.fn u.fc, .slice u.sa u.sn u.sc] 47 := (cellsAt_alloc w _ _).below (below_alloc _ (.cells #[.string x.name, .slice v.fa v.fn v.fc, .slice v.sa v.sn v.sc] 47))
  have k1 := cellsAt_alloc2 w (.cells #[.string x.name, .slice u.fa u.fn u.fc, .slice u.sa u.sn u.sc] 47) #[.string x.name, .slice v.fa v.fn v.fc, .slice v.sa v.sn v.sc] 47
  have hfn : u.fn ≤ 6 := by rw [← hu.files.1]; exact hs.few
  have hsn : u.sn ≤ 3 := by rw [← hu.snaps.1]; exact hs.fewS
  replace hu := hid (hu.below b0)
  replace hv := hid (hv.below b0)
  replace hs := hid hs
  replace k0 := hid k0
  replace k1 := hid k1
  go_enter Tryz.func12, Tryz.ntmps12
  go_wp2_with fail
  generalize (w.alloc (.cells #[.string x.name, .slice u.fa u.fn u.fc, .slice u.sa u.sn u.sc] 47)).alloc (.cells #[.string x.name, .slice v.fa v.fn v.fc, .slice v.sa v.sn v.sc] 47) = w0 at *
  refine (equalE_same Q R u.fa v.fa u.fn u.fc v.fn v.fc x.files w0 hfn hu.out.files hv.out.files).mono ?_
  rintro e w1 ⟨rfl, b1⟩
  have s2 := (k0.out.below b1).cell 2
  have t2 := (k1.out.below b1).cell 2
  simp at s2 t2
  go_wp2_with fail
  refine (equalS_same Q R u.sa v.sa u.sn u.sc v.sn v.sc x.snaps w1 hsn (fun s h => (hs.out.filesS s h).1) (hu.out.snaps.below b1) (hv.out.snaps.below b1)).mono ?_
  rintro e w2 ⟨rfl, b2⟩
  have b3 := Below.tr (Below.tr b0 b1) b2
  clear s2 t2 b2 b1 b0
  go_wp2_with fail
  go_ret
  exact ⟨rfl, b3⟩
end Go.Proofs.YtnmcgmpmcliinaaGreat

namespace Go.Proofs.YtnmcgmpmcliinaaGreat
open Go.RowKit
set_option maxHeartbeats 2000000 in
set_option maxRecDepth 100000 in
theorem equalT_same (Q R : Nat → Prop) (fa ga : Option Addr) (fn fc gn gc : Nat) (l : List SetE) (w : World) (hn : fn ≤ 3) (h6 : ∀ s ∈ l, Shape s) (hf : SetsAt Q w fa fn l) (hg : SetsAt R w ga gn l) :
    Calls Tryz.prog 11 #[.slice fa fn fc, .slice ga gn gc, .func (.func 12) #[] #[]] w fun e w' => e = .returned (.bool true) ∧ Below w.heap.size w w' := by
  obtain rfl : gn = fn := by rw [← hg.1, hf.1]
  replace hf := hid hf
  replace hg := hid hg
  replace h6 := hid h6
  go_enter Tryz.func11, Tryz.ntmps11
  go_wp2_with fail
  go_loopw [17] (fun v wr => ∃ i : Nat, i ≤ gn ∧ v = .int .i64 i ∧ Below w.heap.size w wr) (fun v _ => gn - (Go.RowKit.intOf v).toNat)
  case atStart => exact ⟨0, Nat.zero_le _, rfl, Below.refl _ _⟩
  case round =>
    obtain ⟨i, hin, rfl, hbel⟩ := hrel
    by_cases hlt : i < gn
    · obtain ⟨b1, o1, rfl, hb1, _, hB1⟩ := hf.out.2 (by omega)
      obtain ⟨b2, o2, rfl, hb2, _, hB2⟩ := hg.out.2 (by omega)
      obtain ⟨u, x1⟩ := hB1 i hlt
      obtain ⟨v, x2⟩ := hB2 i hlt
      have hil : i < l.length := by rw [hf.out.1]; exact hlt
      have h6' : Hid (Shape (l.getD i SetE.zero)) := hid (h6.out _ (by simp [List.getD, hil]))
      have c0 := (hbel.cell (p := ⟨b1, o1 + i * 3, none⟩) hb1).trans x1.c0
      have c1 := (hbel.cell (p := ⟨b1, o1 + i * 3 + 1, none⟩) hb1).trans x1.c1
      have c2 := (hbel.cell (p := ⟨b1, o1 + i * 3 + 2, none⟩) hb1).trans x1.c2
      have d0 := (hbel.cell (p := ⟨b2, o2 + i * 3, none⟩) hb2).trans x2.c0
      have d1 := (hbel.cell (p := ⟨b2, o2 + i * 3 + 1, none⟩) hb2).trans x2.c1
      have d2 := (hbel.cell (p := ⟨b2, o2 + i * 3 + 2, none⟩) hb2).trans x2.c2
      have g0 : ∀ o k, (wr.alloc o).cell? ⟨b2, k, none⟩ = wr.cell? ⟨b2, k, none⟩ := fun o k => World.cell?_alloc_past _ _ _ (Nat.lt_of_lt_of_le hb2 hbel.size)
      have bA := below_two wr (.cells #[.string u.name, .slice u.fa u.fn u.fc, .slice u.sa u.sn u.sc] 47) (.cells #[.string v.name, .slice v.fa v.fn v.fc, .slice v.sa v.sn v.sc] 47)
      have hk := hid ((x1.ok.below hbel).below bA)
      have hk' := hid ((x2.ok.below hbel).below bA)
      replace bA := Below.tr hbel bA
      clear x1 x2 hB1 hB2 hf hg hil
      generalize l.getD i SetE.zero = K at *
      go_wp2_with fail
      generalize (wr.alloc (.cells #[.string u.name, .slice u.fa u.fn u.fc, .slice u.sa u.sn u.sc] 47)).alloc (.cells #[.string v.name, .slice v.fa v.fn v.fc, .slice v.sa v.sn v.sc] 47) = wA at *
      refine (sameSet_true Q R u v K wA h6'.out hk.out hk'.out).mono ?_
      rintro e w1 ⟨rfl, bB⟩
      replace bB := Below.tr bA bB
      clear c0 c1 c2 d0 d1 d2 g0 hk hk' bA
      go_wp2_with fail
      go_roundw
      case rel => exact ⟨i + 1, by omega, by go_num, bB⟩
      case measure => simp [Go.RowKit.intOf]; omega
    · obtain rfl : i = gn := by omega
      go_wp2_with fail
      go_ret
      exact ⟨rfl, hbel⟩
set_option maxHeartbeats 2000000 in
set_option maxRecDepth 100000 in
theorem sameTen_true (Q R : Nat → Prop) (t : TenE) (fa ga : Option Addr) (fn fc gn gc : Nat) (w : World) (h3 : t.sets.length ≤ 3) (h6 : ∀ s ∈ t.sets, Shape s) (hf : TenAt Q w t fa fn fc) (hg : TenAt R w t ga gn gc) :
    Calls Tryz.prog 32 #[.agg #[.int .i64 t.key, .int .i64 t.quota, .slice fa fn fc], .agg #[.int .i64 t.key, .int .i64 t.quota, .slice ga gn gc]] w fun e w' => e = .returned (.bool true) ∧ Below w.heap.size w w' := by
  have b0 := below_two w (.cells #[.int .i64 t.key, .int .i64 t.quota, .slice fa fn fc] 42) (.cells #[.int .i64 t.key, .int .i64 t.quota, .slice ga gn gc] 42)
  have k0 : CellsAt _ w.heap.size #[.int .i64 t.key, .int .i64 t.quota, .slice fa fn fc] 42 := (cellsAt_alloc w _ _).below (below_alloc _ (.cells #[.int .i64 t.key, .int .i64 t.quota, .slice ga gn gc] 42))
  have k1 := cellsAt_alloc2 w (.cells #[.int .i64 t.key, .int .i64 t.quota, .slice fa fn fc] 42) #[.int .i64 t.key, .int .i64 t.quota, .slice ga gn gc] 42
  have hfn : fn ≤ 3 := by rw [← hf.sets.1]; exact h3
  have hf0 := hid (hf.sets.below b0)
  have hg0 := hid (hg.sets.below b0)
  replace b0 := hid b0
  replace k0 := hid k0
  replace k1 := hid k1
  replace h6 := hid h6
  clear hf hg
  go_enter Tryz.func32, Tryz.ntmps32
  go_upto_region 1 with fail
  generalize (w.alloc (.cells #[.int .i64 t.key, .int .i64 t.quota, .slice fa fn fc] 42)).alloc (.cells #[.int .i64 t.key, .int .i64 t.quota, .slice ga gn gc] 42) = w0 at *
  have p0 := k0.out.cell 0
  have p1 := k0.out.cell 1
  have p2 := k0.out.cell 2
  have q0 := k1.out.cell 0
  have q1 := k1.out.cell 1
  have q2 := k1.out.cell 2
  simp at p0 p1 p2 q0 q1 q2
  go_wp2_with fail
  refine (equalT_same Q R fa ga fn fc gn gc t.sets w0 hfn h6.out hf0.out hg0.out).mono ?_
  rintro e w1 ⟨rfl, b1⟩
  go_wp2_with fail
  go_ret
  exact ⟨rfl, Below.tr b0.out b1⟩
set_option maxHeartbeats 2000000 in
set_option maxRecDepth 100000 in
theorem equalN_same (Q R : Nat → Prop) (fa ga : Option Addr) (fn fc gn gc : Nat) (l : List TenE) (w : World) (hn : fn ≤ 3) (h6 : ∀ t ∈ l, t.sets.length ≤ 3 ∧ ∀ s ∈ t.sets, Shape s) (hf : TensAt Q w fa fn l) (hg : TensAt R w ga gn l) :
    Calls Tryz.prog 31 #[.slice fa fn fc, .slice ga gn gc, .func (.func 32) #[] #[]] w fun e w' => e = .returned (.bool true) ∧ Below w.heap.size w w' := by
  obtain rfl : gn = fn := by rw [← hg.1, hf.1]
  replace hf := hid hf
  replace hg := hid hg
  replace h6 := hid h6
  go_enter Tryz.func31, Tryz.ntmps31
  go_wp2_with fail
  go_loopw [17] (fun v wr => ∃ i : Nat, i ≤ gn ∧ v = .int .i64 i ∧ Below w.heap.size w wr) (fun v _ => gn - (Go.RowKit.intOf v).toNat)
  case atStart => exact ⟨0, Nat.zero_le _, rfl, Below.refl _ _⟩
  case round =>
    obtain ⟨i, hin, rfl, hbel⟩ := hrel
    by_cases hlt : i < gn
    · obtain ⟨b1, o1, rfl, hb1, _, hB1⟩ := hf.out.2 (by omega)
      obtain ⟨b2, o2, rfl, hb2, _, hB2⟩ := hg.out.2 (by omega)
      obtain ⟨ua, un, uc, x1⟩ := hB1 i hlt
      obtain ⟨va, vn, vc, x2⟩ := hB2 i hlt
      have hil : i < l.length := by rw [hf.out.1]; exact hlt
      have h6' := hid (h6.out (l.getD i TenE.zero) (by simp [List.getD, hil]))
      have c0 := (hbel.cell (p := ⟨b1, o1 + i * 3, none⟩) hb1).trans x1.c0
      have c1 := (hbel.cell (p := ⟨b1, o1 + i * 3 + 1, none⟩) hb1).trans x1.c1
      have c2 := (hbel.cell (p := ⟨b1, o1 + i * 3 + 2, none⟩) hb1).trans x1.c2
      have d0 := (hbel.cell (p := ⟨b2, o2 + i * 3, none⟩) hb2).trans x2.c0
      have d1 := (hbel.cell (p := ⟨b2, o2 + i * 3 + 1, none⟩) hb2).trans x2.c1
      have d2 := (hbel.cell (p := ⟨b2, o2 + i * 3 + 2, none⟩) hb2).trans x2.c2
      have g0 : ∀ o k, (wr.alloc o).cell? ⟨b2, k, none⟩ = wr.cell? ⟨b2, k, none⟩ := fun o k => World.cell?_alloc_past _ _ _ (Nat.lt_of_lt_of_le hb2 hbel.size)
      have hk0 := x1.ok.below hbel
      have hk0' := x2.ok.below hbel
      clear x1 x2 hB1 hB2 hf hg hil
      generalize l.getD i TenE.zero = K at *
      have bA := below_two wr (.cells #[.int .i64 K.key, .int .i64 K.quota, .slice ua un uc] 42) (.cells #[.int .i64 K.key, .int .i64 K.quota, .slice va vn vc] 42)
      have hk := hid (hk0.below bA)
      have hk' := hid (hk0'.below bA)
      replace bA := Below.tr hbel bA
      clear hk0 hk0'
      go_wp2_with fail
      generalize (wr.alloc (.cells #[.int .i64 K.key, .int .i64 K.quota, .slice ua un uc] 42)).alloc (.cells #[.int .i64 K.key, .int .i64 K.quota, .slice va vn vc] 42) = wA at *
      refine (sameTen_true Q R K ua va un uc vn vc wA h6'.out.1 h6'.out.2 hk.out hk'.out).mono ?_
      rintro e w1 ⟨rfl, bB⟩
      replace bB := Below.tr bA bB
      clear c0 c1 c2 d0 d1 d2 g0 hk hk' bA
      go_wp2_with fail
      go_roundw
      case rel => exact ⟨i + 1, by omega, by go_num, bB⟩
      case measure => simp [Go.RowKit.intOf]; omega
    · obtain rfl : i = gn := by omega
      go_wp2_with fail
      go_ret
      exact ⟨rfl, hbel⟩
end Go.Proofs.YtnmcgmpmcliinaaGreat

namespace Go.Proofs.YtnmcgmpmcliinaaGreat
open Go.RowKit
set_option maxHeartbeats 1000000 in
set_option maxRecDepth 100000 in
theorem refBlock_true (K : Blk) (ka : Option Addr) (kn kc : Nat) (ba : Option Addr) (bn bc : Nat) (ka' : Option Addr) (kc' : Nat) (ba' : Option Addr) (bc' : Nat) (Q1 Q2 : Nat → Prop) (w : World) (h4 : kn ≤ 4 ∧ bn ≤ 4)
    (hk : NumsAt Q1 .i64 w ka kn K.kids) (hb : NumsAt Q1 .u8 w ba bn K.bytes) (hk' : NumsAt Q2 .i64 w ka' kn K.kids) (hb' : NumsAt Q2 .u8 w ba' bn K.bytes) :
    Calls Tryz.prog 71 #[.agg #[.int .i64 K.refs, .int .i64 K.level, .slice ka kn kc, .slice ba bn bc], .agg #[.int .i64 K.refs, .int .i64 K.level, .slice ka' kn kc', .slice ba' bn bc']] w fun e w' => e = .returned (.bool true) ∧ Below w.heap.size w w' := by
  have b0 := (below_alloc w (.cells #[.int .i64 K.refs, .int .i64 K.level, .slice ka kn kc, .slice ba bn bc] 93)).alloc (by simp) (.cells #[.int .i64 K.refs, .int .i64 K.level, .slice ka' kn kc', .slice ba' bn bc'] 93)
  replace hk := hid (hk.below b0)
  replace hb := hid (hb.below b0)
  replace hk' := hid (hk'.below b0)
  replace hb' := hid (hb'.below b0)
  go_enter Tryz.func71, Tryz.ntmps71
  go_wp2_with fail
  refine (equalInts_same ka ka' kn kc kc' Q1 Q2 K.kids _ (by omega) hk.out hk'.out).mono ?_
  rintro e w1 ⟨rfl, q, rfl⟩
  have b1 := below_drewN w.heap.size ((w.alloc (.cells #[.int .i64 K.refs, .int .i64 K.level, .slice ka kn kc, .slice ba bn bc] 93)).alloc (.cells #[.int .i64 K.refs, .int .i64 K.level, .slice ka' kn kc', .slice ba' bn bc'] 93)) q
  have b2 := below_drewN ((w.alloc (.cells #[.int .i64 K.refs, .int .i64 K.level, .slice ka kn kc, .slice ba bn bc] 93)).alloc (.cells #[.int .i64 K.refs, .int .i64 K.level, .slice ka' kn kc', .slice ba' bn bc'] 93)).heap.size ((w.alloc (.cells #[.int .i64 K.refs, .int .i64 K.level, .slice ka kn kc, .slice ba bn bc] 93)).alloc (.cells #[.int .i64 K.refs, .int .i64 K.level, .slice ka' kn kc', .slice ba' bn bc'] 93)) q
  replace hb := hid (hb.out.below b2)
  replace hb' := hid (hb'.out.below b2)
  replace b1 := b0.trans b1
  clear b0 b2 hk hk'
  go_wp2_with fail
  refine (bytesEqual_same ba ba' bn bc bn bc' Q1 Q2 K.bytes _ hb.out hb'.out).mono ?_
  rintro e w2 ⟨rfl, rfl⟩
  clear hb hb'
  go_wp2_with fail
  go_ret
  exact ⟨rfl, b1⟩
set_option maxHeartbeats 2000000 in
set_option maxRecDepth 100000 in
theorem refEqual_true (a1 a2 : Option Addr) (n c d : Nat) (B : Nat → Blk) (w : World) (hn : n ≤ 400) (h4 : ∀ i, i < n → (B i).kids.length ≤ 4 ∧ (B i).bytes.length ≤ 4) (h1 : StoreAt w a1 n B) (h2 : StoreAt w a2 n B) :
    Calls Tryz.prog 70 #[.slice a1 n c, .slice a2 n d, .func (.func 71) #[] #[]] w fun e w' => e = .returned (.bool true) ∧ Below w.heap.size w w' := by
  replace h1 := hid h1
  replace h2 := hid h2
  replace h4 := hid h4
  go_enter Tryz.func70, Tryz.ntmps70
  go_wp2_with fail
  go_loopw [17] (fun v wr => ∃ i : Nat, i ≤ n ∧ v = .int .i64 i ∧ Below w.heap.size w wr) (fun v _ => n - (Go.RowKit.intOf v).toNat)
  case atStart => exact ⟨0, Nat.zero_le _, rfl, Below.refl _ _⟩
  case round =>
    obtain ⟨i, hin, rfl, hbel⟩ := hrel
    by_cases hlt : i < n
    · obtain ⟨b1, o1, rfl, hb1, hB1⟩ := h1.out (by omega)
      obtain ⟨b2, o2, rfl, hb2, hB2⟩ := h2.out (by omega)
      obtain ⟨ka, kn, kc, ba, bn, bc, x1⟩ := hB1 i hlt
      obtain ⟨ka', kn', kc', ba', bn', bc', x2⟩ := hB2 i hlt
      obtain rfl : kn' = kn := by rw [← x2.kids.1, x1.kids.1]
      obtain rfl : bn' = bn := by rw [← x2.bytes.1, x1.bytes.1]
      have hk4 : kn' ≤ 4 ∧ bn' ≤ 4 := by rw [← x1.kids.1, ← x1.bytes.1]; exact h4.out i hlt
      have c0 := (hbel.cell (p := ⟨b1, o1 + i * 4, none⟩) hb1).trans x1.c0
      have c1 := (hbel.cell (p := ⟨b1, o1 + i * 4 + 1, none⟩) hb1).trans x1.c1
      have c2 := (hbel.cell (p := ⟨b1, o1 + i * 4 + 2, none⟩) hb1).trans x1.c2
      have c3 := (hbel.cell (p := ⟨b1, o1 + i * 4 + 3, none⟩) hb1).trans x1.c3
      have d0 := (hbel.cell (p := ⟨b2, o2 + i * 4, none⟩) hb2).trans x2.c0
      have d1 := (hbel.cell (p := ⟨b2, o2 + i * 4 + 1, none⟩) hb2).trans x2.c1
      have d2 := (hbel.cell (p := ⟨b2, o2 + i * 4 + 2, none⟩) hb2).trans x2.c2
      have d3 := (hbel.cell (p := ⟨b2, o2 + i * 4 + 3, none⟩) hb2).trans x2.c3
      have g0 : ∀ o k, (wr.alloc o).cell? ⟨b2, k, none⟩ = wr.cell? ⟨b2, k, none⟩ := fun o k => World.cell?_alloc_past _ _ _ (Nat.lt_of_lt_of_le hb2 hbel.size)
      have bA := (below_alloc wr (.cells #[.int .i64 (B i).refs, .int .i64 (B i).level, .slice ka kn' kc, .slice ba bn' bc] 93)).alloc (by simp) (.cells #[.int .i64 (B i).refs, .int .i64 (B i).level, .slice ka' kn' kc', .slice ba' bn' bc'] 93)
      have hk := hid ((x1.kids.below hbel).below bA)
      have hb := hid ((x1.bytes.below hbel).below bA)
      have hk' := hid ((x2.kids.below hbel).below bA)
      have hb' := hid ((x2.bytes.below hbel).below bA)
      replace bA := Below.tr hbel bA
      clear x1 x2 hB1 hB2 h1 h2
      generalize B i = K at *
      go_wp2_with fail
      generalize (wr.alloc (.cells #[.int .i64 K.refs, .int .i64 K.level, .slice ka kn' kc, .slice ba bn' bc] 93)).alloc (.cells #[.int .i64 K.refs, .int .i64 K.level, .slice ka' kn' kc', .slice ba' bn' bc'] 93) = wA at *
      refine (refBlock_true K ka kn' kc ba bn' bc ka' kc' ba' bc' _ _ wA hk4 hk.out hb.out hk'.out hb'.out).mono ?_
      rintro e w1 ⟨rfl, bB⟩
      replace bB := Below.tr bA bB
      clear c0 c1 c2 c3 d0 d1 d2 d3 g0 hk hb hk' hb' bA
      go_wp2_with fail
      go_roundw
      case rel => exact ⟨i + 1, by omega, by go_num, bB⟩
      case measure => simp [Go.RowKit.intOf]; omega
    · obtain rfl : i = n := by omega
      go_wp2_with fail
      go_ret
      exact ⟨rfl, hbel⟩
theorem refStore_true (a1 a2 : Option Addr) (n c d : Nat) (B : Nat → Blk) (w : World) (hn : n ≤ 400) (h4 : ∀ i, i < n → (B i).kids.length ≤ 4 ∧ (B i).bytes.length ≤ 4) (h1 : StoreAt w a1 n B) (h2 : StoreAt w a2 n B) :
    Calls Tryz.prog 30 #[.agg #[.slice a1 n c], .agg #[.slice a2 n d]] w fun e w' => e = .returned (.bool true) ∧ Below w.heap.size w w' := by
  have b0 := below_two w (.cells #[.slice a1 n c] 24) (.cells #[.slice a2 n d] 24)
  replace h1 := hid (h1.below b0)
  replace h2 := hid (h2.below b0)
  replace h4 := hid h4
  go_enter Tryz.func30, Tryz.ntmps30
  go_wp2_with fail
  refine (refEqual_true a1 a2 n c d B _ hn h4.out h1.out h2.out).mono ?_
  rintro e w1 ⟨rfl, b1⟩
  go_wp2_with fail
  go_ret
  exact ⟨rfl, Below.tr b0 b1⟩
theorem samePool_true (Q R : Nat → Prop) (a1 a2 : Option Addr) (n c d : Nat) (B : Nat → Blk) (ta ua : Option Addr) (tn tc un uc : Nat) (l : List TenE) (w : World) (hok : PoolOk n B l) (h1 : PoolAt Q w a1 n B ta tn l) (h2 : PoolAt R w a2 n B ua un l) :
    Calls Tryz.prog 10 #[.agg #[.slice a1 n c, .slice ta tn tc], .agg #[.slice a2 n d, .slice ua un uc]] w fun e w' => e = .returned (.bool true) ∧ Below w.heap.size w w' := by
  have b0 := below_two w (.cells #[.slice a1 n c, .slice ta tn tc] 27) (.cells #[.slice a2 n d, .slice ua un uc] 27)
  have k0 : CellsAt _ w.heap.size #[.slice a1 n c, .slice ta tn tc] 27 := (cellsAt_alloc w _ _).below (below_alloc _ (.cells #[.slice a2 n d, .slice ua un uc] 27))
  have k1 := cellsAt_alloc2 w (.cells #[.slice a1 n c, .slice ta tn tc] 27) #[.slice a2 n d, .slice ua un uc] 27
  have htn : tn ≤ 3 := by rw [← h1.tens.1]; exact hok.few
  have h4 : Hid (∀ i, i < n → (B i).kids.length ≤ 4 ∧ (B i).bytes.length ≤ 4) := hid (fun i hi => ⟨(hok.right.one i hi).few, (hok.right.one i hi).few2⟩)
  have hsh : Hid (∀ t ∈ l, t.sets.length ≤ 3 ∧ ∀ s ∈ t.sets, Shape s) := hid (fun t ht => ⟨(hok.tens t ht).few, (hok.tens t ht).shapes⟩)
  have hn := hok.right.small
  replace h1 := hid (h1.below b0)
  replace h2 := hid (h2.below b0)
  replace b0 := hid b0
  replace k0 := hid k0
  replace k1 := hid k1
  clear hok
  go_enter Tryz.func10, Tryz.ntmps10
  go_upto_region 1 with fail
  generalize (w.alloc (.cells #[.slice a1 n c, .slice ta tn tc] 27)).alloc (.cells #[.slice a2 n d, .slice ua un uc] 27) = w0 at *
  have p0 := k0.out.cell 0
  have q0 := k1.out.cell 0
  simp at p0 q0
  go_wp2_with fail
  refine (refStore_true a1 a2 n c d B w0 hn h4.out h1.out.store h2.out.store).mono ?_
  rintro e w1 ⟨rfl, b1⟩
  clear p0 q0
  have p1 := (b1.cell (p := ⟨w.heap.size, 1, none⟩) k0.out.lt).trans (k0.out.cell 1)
  have q1 := (b1.cell (p := ⟨w.heap.size + 1, 1, none⟩) k1.out.lt).trans (k1.out.cell 1)
  simp at p1 q1
  go_wp2_with fail
  refine (equalN_same Q R ta ua tn tc un uc l w1 htn hsh.out (h1.out.tens.below b1) (h2.out.tens.below b1)).mono ?_
  rintro e w2 ⟨rfl, b2⟩
  go_wp2_with fail
  go_ret
  exact ⟨rfl, Below.tr b0.out (Below.tr b1 b2)⟩
end Go.Proofs.YtnmcgmpmcliinaaGreat

namespace Go.Proofs.YtnmcgmpmcliinaaGreat
open Go.RowKit
structure SB (W w : World) (pa : Option Addr) (n c : Nat) (ta : Option Addr) (tn tc : Nat) (a : AskE) (ba : Option Addr) (bn bc : Nat) : Prop where
  bel : Below W.heap.size W w
  bP : CellsAt w W.heap.size #[.slice pa n c, .slice ta tn tc] 27
  bA : CellsAt w (W.heap.size + 1) #[.int .i64 a.kind, .string a.set, .string a.file, .string a.to, .int .i64 a.pos, .int .i64 a.num, .slice ba bn bc] 30
theorem SB.below {W w w' : World} {pa : Option Addr} {n c : Nat} {ta : Option Addr} {tn tc : Nat} {a : AskE} {ba : Option Addr} {bn bc : Nat} (h : SB W w pa n c ta tn tc a ba bn bc) (b : Below w.heap.size w w') : SB W w' pa n c ta tn tc a ba bn bc := ⟨Below.tr h.bel b, h.bP.below b, h.bA.below b⟩
theorem sb_enter (w : World) (pa : Option Addr) (n c : Nat) (ta : Option Addr) (tn tc : Nat) (a : AskE) (ba : Option Addr) (bn bc : Nat) : SB w ((w.alloc (.cells #[.slice pa n c, .slice ta tn tc] 27)).alloc (objA a ba bn bc)) pa n c ta tn tc a ba bn bc := by
  have h1 := cellsAt_alloc w #[.slice pa n c, .slice ta tn tc] 27
  have h2 := cellsAt_alloc (w.alloc (.cells #[.slice pa n c, .slice ta tn tc] 27)) #[.int .i64 a.kind, .string a.set, .string a.file, .string a.to, .int .i64 a.pos, .int .i64 a.num, .slice ba bn bc] 30
  simp only [szB] at h2
  exact ⟨Below.tr (below_alloc _ _) (below_alloc _ _), h1.below (below_alloc _ _), h2⟩
def PooledIs : Prop := ∀ w : World, Calls Tryz.prog 8 #[] w fun e w' => e = .returned (.bool true) ∧ Below w.heap.size w w'
set_option maxHeartbeats 8000000 in
set_option maxRecDepth 100000 in
theorem poolStays_of (hpl : PooledIs) (Q : Nat → Prop) (pa : Option Addr) (n c : Nat) (B : Nat → Blk) (ta : Option Addr) (tn tc : Nat) (l : List TenE) (i : Int) (a : AskE) (ba : Option Addr) (bn bc : Nat) (w : World) (hP : PoolAt Q w pa n B ta tn l) (hao : a.ok) (hB : NumsAt (fun _ => True) .u8 w ba bn a.bytes) :
    Calls Tryz.prog 3 #[.agg #[.slice pa n c, .slice ta tn tc], .int .i64 i, .agg #[.int .i64 a.kind, .string a.set, .string a.file, .string a.to, .int .i64 a.pos, .int .i64 a.num, .slice ba bn bc]] w fun e w' => e = .returned (.bool true) ∧ Below w.heap.size w w' := by
  have hsb := sb_enter w pa n c ta tn tc a ba bn bc
  unfold objA at hsb
  have hB0 := hid (hB.below hsb.bel)
  have hP0 := hid (hP.below hsb.bel)
  have hby : Hid (Bytes a.bytes) := hid hB.bytes
  replace hsb := hid hsb
  replace hpl := hid hpl
  replace hao := hid hao
  clear hP hB
  go_enter Tryz.func3, Tryz.ntmps3
  go_upto_region 1 with fail
  generalize (w.alloc (.cells #[.slice pa n c, .slice ta tn tc] 27)).alloc (.cells #[.int .i64 a.kind, .string a.set, .string a.file, .string a.to, .int .i64 a.pos, .int .i64 a.num, .slice ba bn bc] 30) = w0 at *
  have p0 := hsb.out.bP.cell 0
  have p1 := hsb.out.bP.cell 1
  have a0 := hsb.out.bA.cell 0
  have a1 := hsb.out.bA.cell 1
  have a2 := hsb.out.bA.cell 2
  have a3 := hsb.out.bA.cell 3
  have a4 := hsb.out.bA.cell 4
  have a5 := hsb.out.bA.cell 5
  have a6 := hsb.out.bA.cell 6
  simp only [List.getElem?_toArray, List.getElem?_cons_zero, List.getElem?_cons_succ] at p0 p1 a0 a1 a2 a3 a4 a5 a6
  go_wp2_with fail
  refine (pdo_any Q pa n c B ta tn tc l i a ba bn bc w0 hP0.out hao.out hB0.out).mono ?_
  clear p0 p1 a0 a1 a2 a3 a4 a5 a6
  rintro e w1 ⟨hret, b1⟩
  replace hsb := hid (hsb.out.below b1)
  replace hP0 := hid (hP0.out.below b1)
  clear b1 hB0
  unfold RetPD at hret
  rcases hret with ⟨e', rfl, hne, _⟩ | ⟨hok, k, t, rfl, ht, e1, N, ya, yn, yc, y, ln, lc, g, D, l', ua, uc, rfl, hc, hPD⟩
  · have hbe : (e' != 0) = true := by simp [hne]
    have b2 := hid (Below.tr (below_alloc w1 (.cells #[.slice none 0 0, .slice none 0 0] 27)) (below_alloc _ (.cells #[.int .i64 0, .int .i64 0, .slice none 0 0, .slice none 0 0] 34)))
    replace hsb := hid (hsb.out.below b2.out)
    go_upto_region 2 with fail
    generalize (w1.alloc (.cells #[.slice none 0 0, .slice none 0 0] 27)).alloc (.cells #[.int .i64 0, .int .i64 0, .slice none 0 0, .slice none 0 0] 34) = w2 at *
    go_wp2_with fail
    refine (hpl.out w2).mono ?_
    rintro e w3 ⟨rfl, b3⟩
    replace hsb := hid (hsb.out.below b3)
    clear b3 b2
    go_wp2_with fail
    refine (hpl.out w3).mono ?_
    rintro e w4 ⟨rfl, b4⟩
    replace hsb := hid (hsb.out.below b4)
    clear b4
    go_wp2_with fail
    go_ret
    exact ⟨rfl, hsb.out.bel⟩
  have hI := hid (hc.is hok ht hby.out)
  replace hok := hid hok
  replace ht := hid ht
  replace hPD := hid hPD
  clear hc
  have bq := hid (Below.tr (below_alloc w1 (.cells #[.slice (some ⟨g, 0, none⟩) n n, .slice ua tn uc] 27)) (below_alloc _ (.cells #[.int .i64 e1, .int .i64 N, .slice ya yn yc, .slice y ln lc] 34)))
  have kQ : Hid (CellsAt _ w1.heap.size #[.slice (some ⟨g, 0, none⟩) n n, .slice ua tn uc] 27) := hid ((cellsAt_alloc w1 _ _).below (below_alloc _ (.cells #[.int .i64 e1, .int .i64 N, .slice ya yn yc, .slice y ln lc] 34)))
  have kX := hid (cellsAt_alloc2 w1 (.cells #[.slice (some ⟨g, 0, none⟩) n n, .slice ua tn uc] 27) #[.int .i64 e1, .int .i64 N, .slice ya yn yc, .slice y ln lc] 34)
  replace hsb := hid (hsb.out.below bq.out)
  replace hP0 := hid (hP0.out.below bq.out)
  replace hPD := hid (hPD.out.below bq.out)
  clear bq
  go_upto_region 2 with fail
  generalize (w1.alloc (.cells #[.slice (some ⟨g, 0, none⟩) n n, .slice ua tn uc] 27)).alloc (.cells #[.int .i64 e1, .int .i64 N, .slice ya yn yc, .slice y ln lc] 34) = w2 at *
  go_wp2_with fail
  refine (hpl.out w2).mono ?_
  rintro e w3 ⟨rfl, b3⟩
  replace hsb := hid (hsb.out.below b3)
  replace hP0 := hid (hP0.out.below b3)
  replace hPD := hid (hPD.out.below b3)
  replace kQ := hid (kQ.out.below b3)
  replace kX := hid (kX.out.below b3)
  clear b3
  have q0 := kQ.out.cell 0
  have q1 := kQ.out.cell 1
  simp only [List.getElem?_toArray, List.getElem?_cons_zero, List.getElem?_cons_succ] at q0 q1
  go_wp2_with fail
  refine (poolCheck_any (fun _ => True) (some ⟨g, 0, none⟩) n n D ua tn uc l' w3 hPD.out).mono ?_
  rintro e w4 ⟨⟨e4, rfl, he4⟩, b4⟩
  obtain rfl : e4 = 0 := he4.2 hI.out.ok
  replace hsb := hid (hsb.out.below b4)
  replace hP0 := hid (hP0.out.below b4)
  replace hPD := hid (hPD.out.below b4)
  replace kQ := hid (kQ.out.below b4)
  replace kX := hid (kX.out.below b4)
  clear b4 he4 q0 q1
  have q0 := kQ.out.cell 0
  have q1 := kQ.out.cell 1
  have x0 := kX.out.cell 0
  have p0 := hsb.out.bP.cell 0
  have p1 := hsb.out.bP.cell 1
  have a0 := hsb.out.bA.cell 0
  simp only [List.getElem?_toArray, List.getElem?_cons_zero, List.getElem?_cons_succ] at q0 q1 x0 p0 p1 a0
  go_upto_region 6 with fail
  go_cut [10] from 70 (fun v10 wc => wc = w4 ∧ ∃ s : Bool, v10 = .bool s ∧ (s = true → e1 ≠ 0 ∨ a.kind = 11 ∨ a.kind = 12 ∨ a.kind = 13))
  case first =>
    by_cases h0 : e1 = 0
    · have h0' : (e1 != 0) = false := by simp [h0]
      by_cases h1 : a.kind = 11
      · have h1' : (a.kind == 11) = true := by simp [h1]
        replace h0 := hid h0
        replace h1 := hid h1
        go_wp2_with fail
        go_meet
        exact ⟨rfl, true, rfl, fun _ => .inr (.inl h1.out)⟩
      · have h1' : (a.kind == 11) = false := by simp [h1]
        replace h1 := hid h1
        by_cases h2 : a.kind = 12
        · have h2' : (a.kind == 12) = true := by simp [h2]
          replace h0 := hid h0
          replace h2 := hid h2
          go_wp2_with fail
          go_meet
          exact ⟨rfl, true, rfl, fun _ => .inr (.inr (.inl h2.out))⟩
        · have h2' : (a.kind == 12) = false := by simp [h2]
          replace h2 := hid h2
          by_cases h3 : a.kind = 13
          · have h3' : (a.kind == 13) = true := by simp [h3]
            replace h0 := hid h0
            replace h3 := hid h3
            go_wp2_with fail
            go_meet
            exact ⟨rfl, true, rfl, fun _ => .inr (.inr (.inr h3.out))⟩
          · have h3' : (a.kind == 13) = false := by simp [h3]
            replace h0 := hid h0
            replace h3 := hid h3
            go_wp2_with fail
            go_meet
            exact ⟨rfl, false, rfl, fun f => by cases f⟩
    · have h0' : (e1 != 0) = true := by simp [h0]
      replace h0 := hid h0
      go_wp2_with fail
      go_meet
      exact ⟨rfl, true, rfl, fun _ => .inl h0.out⟩
  case rest =>
    obtain ⟨rfl, s, rfl, hs⟩ := hcut
    replace hs := hid hs
    go_upto_region 7 with fail
    go_cut [76] from 77 (fun v76 w5 => v76 = .bool false ∧ Below wc.heap.size wc w5)
    case first =>
      cases s
      · go_wp2_with fail
        go_meet
        exact ⟨rfl, Below.refl _ _⟩
      · obtain ⟨eD, eL⟩ := hI.out.still (hs.out rfl)
        have hPD' := hPD.out
        rw [eD, eL] at hPD'
        replace hPD' := hid hPD'
        go_wp2_with fail
        refine (samePool_true Q (fun _ => True) pa (some ⟨g, 0, none⟩) n c n B ta ua tn tc tn uc l wc hok.out hP0.out hPD'.out).mono ?_
        rintro e w5 ⟨rfl, b5⟩
        replace b5 := hid b5
        go_wp2_with fail
        go_meet
        exact ⟨rfl, b5.out⟩
    case rest =>
      obtain ⟨rfl, b5⟩ := hcut
      replace hsb := hid (hsb.out.below b5)
      replace hP0 := hid (hP0.out.below b5)
      replace hPD := hid (hPD.out.below b5)
      replace kQ := hid (kQ.out.below b5)
      clear b5 q0 q1 x0 p0 p1 a0 kX hs
      have htn : tn ≤ 3 := by rw [← hP0.out.tens.1]; exact hok.out.few
      have p1 := hsb.out.bP.cell 1
      simp only [List.getElem?_toArray, List.getElem?_cons_zero, List.getElem?_cons_succ] at p1
      go_wp2_with fail
      clear p1
      go_loopw [80] (fun u wr => ∃ j : Nat, j ≤ tn ∧ u = .int .i64 j ∧ Below wc.heap.size wc wr) (fun u _ => tn - (Go.RowKit.intOf u).toNat)
      case atStart => exact ⟨0, Nat.zero_le _, rfl, Below.refl _ _⟩
      case round =>
        obtain ⟨j, hj, rfl, hbel⟩ := hrel
        by_cases hlt : j < tn
        · obtain ⟨tb1, to1, rfl, hb1, _, h1⟩ := (hP0.out.tens.below hbel).2 (by omega)
          obtain ⟨tb2, to2, rfl, hb2, _, h2⟩ := (hPD.out.tens.below hbel).2 (by omega)
          obtain ⟨sa, sn, sc, x1⟩ := h1 j hlt
          obtain ⟨va, vn, vc, x2⟩ := h2 j hlt
          have hjl : j < l.length := by rw [hP0.out.tens.1]; exact hlt
          have hTm : l.getD j TenE.zero ∈ l := by
            rw [List.getD_eq_getElem?_getD, List.getElem?_eq_getElem hjl]
            exact List.getElem_mem hjl
          have hTok := hok.out.tens _ hTm
          obtain ⟨t', el, ek, eq⟩ := hI.out.set
          have hU : (l'.getD j TenE.zero).key = (l.getD j TenE.zero).key ∧ (l'.getD j TenE.zero).quota = (l.getD j TenE.zero).quota ∧ (j ≠ k → (l'.getD j TenE.zero).sets = (l.getD j TenE.zero).sets) := by
            obtain ⟨hkl, hte⟩ := List.getElem?_eq_some_iff.1 ht.out
            rw [el]
            simp only [List.getD_eq_getElem?_getD]
            by_cases e : j = k
            · subst e
              rw [List.getElem?_set_self hkl, ht.out]
              exact ⟨ek, eq, fun f => absurd rfl f⟩
            · rw [List.getElem?_set_ne (fun f => e f.symm)]
              exact ⟨rfl, rfl, fun _ => rfl⟩
          have hs3 : Hid (sn ≤ 3) := hid (by rw [← x1.ok.sets.1]; exact hTok.few)
          have hsh : Hid (∀ s ∈ (l.getD j TenE.zero).sets, Shape s) := hid hTok.shapes
          clear hTok hTm el ek eq hjl
          generalize l.getD j TenE.zero = T at *
          generalize l'.getD j TenE.zero = U at *
          obtain ⟨uk, uq, us⟩ := U
          obtain ⟨e1', e2', e3'⟩ := hU
          simp only at e1' e2' e3'
          subst e1' e2'
          have c0 := x1.c0
          have c1 := x1.c1
          have c2 := x1.c2
          have d0 := x2.c0
          have d1 := x2.c1
          have d2 := x2.c2
          simp only at d0 d1 d2
          have kQr := kQ.out.below hbel
          have q1 := kQr.cell 1
          have q1' := (below_alloc wr (.cells #[.int .i64 T.key, .int .i64 T.quota, .slice sa sn sc] 42)).cell (p := ⟨w1.heap.size, 1, none⟩) kQr.lt
          simp only [List.getElem?_toArray, List.getElem?_cons_zero, List.getElem?_cons_succ] at q1
          have g0 : ∀ o k, (wr.alloc o).cell? ⟨tb2, k, none⟩ = wr.cell? ⟨tb2, k, none⟩ := fun o k => World.cell?_alloc_past _ _ _ hb2
          have g1 : ∀ o k, (wr.alloc o).cell? ⟨w1.heap.size, k, none⟩ = wr.cell? ⟨w1.heap.size, k, none⟩ := fun o k => World.cell?_alloc_past _ _ _ kQr.lt
          have bA := (below_alloc wr (.cells #[.int .i64 T.key, .int .i64 T.quota, .slice sa sn sc] 42)).alloc (by simp) (.cells #[.int .i64 T.key, .int .i64 T.quota, .slice va vn vc] 42)
          have hS1 := hid (x1.ok.sets.below bA)
          have hS2 := hid (x2.ok.sets.below bA)
          replace bA := Below.tr hbel bA
          have hj0 : (0 : Int) ≤ (j : Int) := by omega
          have hjI : (j : Int) < (tn : Int) := by omega
          replace e3' := hid e3'
          replace kQr := hid kQr
          clear x1 x2 h1 h2 q1'
          by_cases hjk : j = k
          · have hne : ((j : Int) != (k : Int)) = false := by simp [hjk]
            replace hjk := hid hjk
            go_wp2_with fail
            go_roundw
            case rel => exact ⟨j + 1, by omega, by go_num, bA⟩
            case measure => simp [Go.RowKit.intOf]; omega
          · have hne : ((j : Int) != (k : Int)) = true := by
              simp only [bne_iff_ne, ne_eq]
              omega
            have hS2' := hS2.out
            rw [show (TenE.mk T.key T.quota us).sets = T.sets from e3'.out hjk] at hS2'
            replace hS2' := hid hS2'
            replace hjk := hid hjk
            go_wp2_with fail
            refine (equalT_same Q (fun _ => True) sa va sn sc vn vc T.sets _ hs3.out hsh.out hS1.out hS2'.out).mono ?_
            rintro e w6 ⟨rfl, b6⟩
            replace bA := Below.tr bA b6
            clear b6
            go_wp2_with fail
            go_roundw
            case rel => exact ⟨j + 1, by omega, by go_num, bA⟩
            case measure => simp [Go.RowKit.intOf]; omega
        · obtain rfl : j = tn := by omega
          go_wp2_with fail
          go_ret
          exact ⟨rfl, Below.tr hsb.out.bel hbel⟩
end Go.Proofs.YtnmcgmpmcliinaaGreat

namespace Go.Proofs.YtnmcgmpmcliinaaGreat
open Go.RowKit
theorem Stays.uses {n : Nat} {B C : Nat → Blk} {R : List Int} {a : Int} (h : Stays n B C R) (h1 : Uses B R a) : Uses C R a := by
  obtain ⟨L, l1, l2, e⟩ := h1
  exact ⟨L, l1, fun x => (l2 x).trans ⟨fun f => h.clo f, fun f => h.back f⟩, e⟩
end Go.Proofs.YtnmcgmpmcliinaaGreat
