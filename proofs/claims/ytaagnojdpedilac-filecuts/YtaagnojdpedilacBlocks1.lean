/-
  Contracts of package blocks' small functions. Nothing here is trusted.
-/
import Derived.Test.YtaagnojdpedilacMem
import Derived.Deep.QuietTactic
import Derived.BigQuiet
set_option linter.unusedVariables false
namespace Go.Proofs.Ytaagnojdpedilac
open Go.RowKit

theorem below_drewN (B : Nat) (w : World) (n : Nat) : Below B w (w.drewN n) := ⟨rfl, rfl, rfl, Nat.le_refl _, fun _ _ => rfl⟩
/-- it answers whether p -/
def RetB (e : Ending) (p : Prop) : Prop := ∃ t, e = .returned (.bool t) ∧ (t = true ↔ p)
/-- it answers 0 just if p -/
def RetE (e : Ending) (p : Prop) : Prop := ∃ c : Int, e = .returned (.int .i64 c) ∧ (c = 0 ↔ p)

theorem at_ptr (p : Addr) (b off n c i : Nat) (w : World) (hn : n ≤ 400) (hs : w.cell? p = some (.slice (some ⟨b, off, none⟩) n c)) (hi : i < n) :
    Calls Try.prog 72 #[.pointer (some p), .int .i64 ((i : Int) + 1)] w fun e w' => e = .returned (.pointer (some ⟨b, off + i * 4, none⟩)) ∧ w' = w := by
  go_enter Try.func72, Try.ntmps72
  go_wp2
  go_ret
  exact ⟨rfl, rfl⟩

theorem there_any (p : Addr) (a : Option Addr) (n c : Nat) (B : Nat → Blk) (x : Int) (w : World) (hn : n ≤ 400) (hs : w.cell? p = some (.slice a n c)) (hS : StoreAt w a n B) :
    Calls Try.prog 71 #[.pointer (some p), .int .i64 x] w fun e w' => RetB e (There n B x) ∧ w' = w := by
  by_cases h1 : x < 1
  · go_enter Try.func71, Try.ntmps71
    go_wp2_with fail
    go_ret
    exact ⟨⟨_, rfl, by simp [There]; omega⟩, rfl⟩
  · by_cases h2 : (n : Int) < x
    · go_enter Try.func71, Try.ntmps71
      go_wp2_with fail
      go_ret
      exact ⟨⟨_, rfl, by simp [There]; omega⟩, rfl⟩
    · obtain ⟨i, rfl⟩ : ∃ i : Nat, x = (i : Int) + 1 := ⟨(x - 1).toNat, by omega⟩
      have hi : i < n := by omega
      obtain ⟨b, off, rfl, hlt, hB⟩ := hS (by omega)
      obtain ⟨ka, kn, kc, ba, bn, bc, hb⟩ := hB i hi
      have hc := hb.c0
      have hr : ((!(B i).refs == 0) = true ↔ There n B ((i : Int) + 1)) := by
        have e : ((i : Int) + 1 - 1).toNat = i := by omega
        simp only [There, e]
        simp; omega
      replace hr := hid hr
      clear hb hB hS
      generalize (B i).refs = r at *
      go_enter Try.func71, Try.ntmps71
      go_wp2_with fail
      refine (at_ptr p b off n c i _ hn hs hi).mono ?_
      rintro e w1 ⟨rfl, rfl⟩
      go_wp2_with fail
      go_ret
      exact ⟨⟨_, rfl, hr.out⟩, rfl⟩

theorem there_yes (p : Addr) (a : Option Addr) (n c : Nat) (B : Nat → Blk) (x : Int) (w : World) (hn : n ≤ 400) (hs : w.cell? p = some (.slice a n c)) (hS : StoreAt w a n B) (h : There n B x) :
    Calls Try.prog 71 #[.pointer (some p), .int .i64 x] w fun e w' => e = .returned (.bool true) ∧ w' = w := by
  refine (there_any p a n c B x w hn hs hS).mono ?_
  rintro e w' ⟨⟨t, rfl, ht⟩, rfl⟩
  exact ⟨by rw [ht.2 h], rfl⟩
theorem there_no (p : Addr) (a : Option Addr) (n c : Nat) (B : Nat → Blk) (x : Int) (w : World) (hn : n ≤ 400) (hs : w.cell? p = some (.slice a n c)) (hS : StoreAt w a n B) (h : ¬ There n B x) :
    Calls Try.prog 71 #[.pointer (some p), .int .i64 x] w fun e w' => e = .returned (.bool false) ∧ w' = w := by
  refine (there_any p a n c B x w hn hs hS).mono ?_
  rintro e w' ⟨⟨t, rfl, ht⟩, rfl⟩
  refine ⟨?_, rfl⟩
  cases t
  · rfl
  · exact absurd (ht.1 rfl) h

theorem checkLeaf_any (b off : Nat) (Q : Nat → Prop) (K : Blk) (ka : Option Addr) (kn kc : Nat) (ba : Option Addr) (bn bc : Nat) (w : World) (h : BlkAt Q w b off K ka kn kc ba bn bc) :
    Calls Try.prog 112 #[.pointer (some ⟨b, off, none⟩)] w fun e w' => RetE e (K.kids = [] ∧ K.bytes.length = 4) ∧ w' = w := by
  have c2 := h.c2
  have c3 := h.c3
  have hk : K.kids = [] ↔ kn = 0 := by rw [← h.kids.1]; exact List.length_eq_zero_iff.symm
  have hb : K.bytes.length = 4 ↔ bn = 4 := by rw [h.bytes.1]
  clear h
  have hk : ∀ e, RetE e (K.kids = [] ∧ K.bytes.length = 4) ↔ RetE e (kn = 0 ∧ bn = 4) := fun e => by rw [hk, hb]
  simp only [hk]
  clear hk hb
  by_cases h0 : kn = 0
  · by_cases h4 : bn = 4
    · subst h0 h4
      go_enter Try.func112, Try.ntmps112
      go_wp2_with fail
      go_ret
      exact ⟨⟨_, rfl, by simp⟩, rfl⟩
    · have h4' : ((bn : Int) == 4) = false := by simp; omega
      have h0' : ((kn : Int) == 0) = true := by simp; omega
      go_enter Try.func112, Try.ntmps112
      go_wp2_with fail
      go_ret
      exact ⟨⟨_, rfl, by simp; omega⟩, rfl⟩
  · have h0' : ((kn : Int) == 0) = false := by simp; omega
    go_enter Try.func112, Try.ntmps112
    go_wp2_with fail
    go_ret
    exact ⟨⟨_, rfl, by simp; omega⟩, rfl⟩

/-- what holds after j kids -/
def KidsInv (n : Nat) (B : Nat → Blk) (lv : Int) (l : List Int) (j : Nat) (some : Bool) : Prop :=
  KidsOk n B lv (l.take j) ∧ (some = true ↔ ∃ k ∈ l.take j, k ≠ 0)
theorem kidsInv_zero (n : Nat) (B : Nat → Blk) (lv : Int) (l : List Int) : KidsInv n B lv l 0 false := by simp [KidsInv, KidsOk]
theorem take_snoc {l : List Int} {j : Nat} (h : j < l.length) : l.take (j + 1) = l.take j ++ [l.getD j 0] := by
  rw [List.take_add_one]; simp [List.getD, h]
theorem KidsInv.skip {n : Nat} {B : Nat → Blk} {lv : Int} {l : List Int} {j : Nat} {some : Bool} (h : KidsInv n B lv l j some) (hj : j < l.length) (h0 : l.getD j 0 = 0) : KidsInv n B lv l (j + 1) some := by
  unfold KidsInv KidsOk at *
  rw [take_snoc hj, h0]
  simp only [List.mem_append, List.mem_singleton]
  refine ⟨fun k hk => ?_, h.2.trans ⟨fun ⟨k, h1, h2⟩ => ⟨k, .inl h1, h2⟩, fun ⟨k, h1, h2⟩ => ⟨k, h1.resolve_right h2, h2⟩⟩⟩
  rcases hk with hk | hk
  · exact h.1 k hk
  · exact .inl hk
theorem KidsInv.next {n : Nat} {B : Nat → Blk} {lv : Int} {l : List Int} {j : Nat} {some : Bool} (h : KidsInv n B lv l j some) (hj : j < l.length) (h0 : l.getD j 0 ≠ 0) (ht : There n B (l.getD j 0)) (hl : (B (l.getD j 0 - 1).toNat).level = lv - 1) : KidsInv n B lv l (j + 1) true := by
  unfold KidsInv KidsOk at *
  rw [take_snoc hj]
  simp only [List.mem_append, List.mem_singleton]
  refine ⟨fun k hk => ?_, by simp only [true_iff]; exact ⟨_, .inr rfl, h0⟩⟩
  rcases hk with hk | hk
  · exact h.1 k hk
  · rw [hk]; exact .inr ⟨ht, hl⟩

/-- what checkKids answers 0 to -/
def KidsForm (n : Nat) (B : Nat → Blk) (K : Blk) : Prop := K.kids.length = 4 ∧ K.bytes = [] ∧ KidsOk n B K.level K.kids ∧ ∃ k ∈ K.kids, k ≠ 0

theorem retE_no {p : Prop} (c : Int) (hc : c ≠ 0) (h : ¬ p) : RetE (.returned (.int .i64 c)) p := ⟨c, rfl, fun e => absurd e hc, fun e => absurd e h⟩
theorem retE_yes {p : Prop} (h : p) : RetE (.returned (.int .i64 0)) p := ⟨0, rfl, fun _ => h, fun _ => rfl⟩

set_option maxHeartbeats 1000000 in
set_option maxRecDepth 100000 in
theorem checkKids_any (p : Addr) (a : Option Addr) (n c : Nat) (B : Nat → Blk) (b off : Nat) (Q : Nat → Prop) (K : Blk) (ka : Option Addr) (kn kc : Nat) (ba : Option Addr) (bn bc : Nat) (w : World)
    (hn : n ≤ 400) (hs : w.cell? p = some (.slice a n c)) (hS : StoreAt w a n B) (h : BlkAt Q w b off K ka kn kc ba bn bc) (hlv : 0 ≤ K.level ∧ K.level ≤ 3) :
    Calls Try.prog 113 #[.pointer (some p), .pointer (some ⟨b, off, none⟩)] w fun e w' => RetE e (KidsForm n B K) ∧ ∃ m, w' = w.drewN m := by
  have c1 := h.c1
  have c2 := h.c2
  have c3 := h.c3
  by_cases h4 : kn = 4
  · by_cases h0 : bn = 0
    · subst h4 h0
      go_enter Try.func113, Try.ntmps113
      go_wp2_with fail
      go_loopw [5, 27] (fun s i wr => ∃ (j : Nat) (t : Bool) (m : Nat), j ≤ 4 ∧ i = .int .i64 j ∧ s = .bool t ∧ KidsInv n B K.level K.kids j t ∧ wr = w.drewN m) (fun _ i _ => 4 - (Go.RowKit.intOf i).toNat)
      case atStart => exact ⟨0, false, 0, by omega, rfl, rfl, kidsInv_zero _ _ _ _, rfl⟩
      case round =>
        obtain ⟨j, t, m, hj, rfl, rfl, hinv, hwr⟩ := hrel
        have hkl := h.kids.1
        have hbl := h.bytes.1
        have hbel : Below w.heap.size w wr := hwr ▸ below_drewN w.heap.size w m
        replace h := h.below hbel
        replace hS := hS.below hbel
        replace hs : wr.cell? p = some (.slice a n c) := by rw [hwr]; exact hs
        replace c1 := h.c1
        clear c2 c3 hbel
        replace hwr := hid hwr
        by_cases hlt : j < 4
        · obtain ⟨kb, ko, rfl, hkb, _, hc⟩ := h.kids.2.2 (by omega)
          have hck : wr.cell? ⟨kb, ko + j, none⟩ = some (.int .i64 (K.kids.getD j 0)) := hc j hlt
          have hbd := h.kids.bd (h.kids.getD hlt)
          have hjl : j < K.kids.length := by omega
          have I1 := hid (fun e => hinv.skip hjl e)
          have I2 := hid (fun e f g => hinv.next hjl e f g)
          have I3 : Hid (K.kids.getD j 0 ∈ K.kids) := hid (h.kids.getD hlt)
          clear hc hinv hkl hbl hjl h
          generalize K.kids.getD j 0 = x at *
          by_cases hx0 : x = 0
          · have hx0' : (x == 0) = true := by simp [hx0]
            go_wp2_with fail
            go_roundw
            case rel => exact ⟨j + 1, t, m, by omega, by go_num, rfl, I1.out hx0, hwr.out⟩
            case measure => simp [Go.RowKit.intOf]; omega
          · have hx0' : (x == 0) = false := by simp [hx0]
            by_cases ht : There n B x
            · obtain ⟨i, rfl⟩ : ∃ i : Nat, x = (i : Int) + 1 := ⟨(x - 1).toNat, by have := ht.1; omega⟩
              have hi : i < n := by have := ht.2.1; omega
              obtain ⟨sb, so, rfl, hsb, hB⟩ := hS (by omega)
              obtain ⟨ka', kn', kc', ba', bn', bc', hb'⟩ := hB i hi
              have hlc := hb'.c1
              have ei : ((i : Int) + 1 - 1).toNat = i := by omega
              rw [ei] at I2
              have J3 : (B i).level ≠ K.level - 1 → ¬ KidsForm n B K := by
                intro hne ⟨_, _, hk, _⟩
                rcases hk _ I3.out with h | ⟨_, h⟩
                · omega
                · rw [ei] at h; exact hne h
              replace J3 := hid J3
              clear hB hb' ei
              replace hS := hid hS
              generalize hlev : (B i).level = lv at *
              replace hlev := hid hlev
              replace ht := hid ht
              generalize hkl : K.level = kl at *
              replace hkl := hid hkl
              by_cases hl : lv = kl - 1
              · have hl' : (lv == kl - 1) = true := by simp [hl]
                go_wp2_with fail
                go_quiet (first | (go_at_call 71; refine Calls.quiet_of_same (there_yes p (some ⟨sb, so, none⟩) n c B _ _ hn ?_ ?_ ht.out); exact hs; exact hS.out.below (below_drewN _ _ _)) | (go_at_call 72; refine Calls.quiet_of_same (at_ptr p sb so n c i _ hn ?_ hi); exact hs))
                go_wp2_with fail
                go_roundw
                case rel => exact ⟨j + 1, true, m + nq, by omega, by go_num, rfl, I2.out hx0 ht.out hl, by rw [hwr.out, World.drewN_drewN]⟩
                case measure => simp [Go.RowKit.intOf]; omega
              · have hl' : (lv == kl - 1) = false := by simp [hl]
                go_wp2_with fail
                go_quiet (first | (go_at_call 71; refine Calls.quiet_of_same (there_yes p (some ⟨sb, so, none⟩) n c B _ _ hn ?_ ?_ ht.out); exact hs; exact hS.out.below (below_drewN _ _ _)) | (go_at_call 72; refine Calls.quiet_of_same (at_ptr p sb so n c i _ hn ?_ hi); exact hs))
                go_wp2_with fail
                go_ret
                exact ⟨retE_no 5 (by omega) (J3.out hl), m + nq, by rw [hwr.out, World.drewN_drewN]⟩
            · have J3 : ¬ KidsForm n B K := by
                intro ⟨_, _, hk, _⟩
                rcases hk _ I3.out with h | ⟨h, _⟩
                · exact hx0 h
                · exact ht h
              replace J3 := hid J3
              replace hS := hid hS
              replace ht := hid ht
              go_wp2_with fail
              go_quiet (first | (go_at_call 71; refine Calls.quiet_of_same (there_no p a n c B _ _ hn ?_ ?_ ht.out); exact hs; exact hS.out.below (below_drewN _ _ _)))
              go_wp2_with fail
              go_ret
              exact ⟨retE_no 5 (by omega) J3.out, m + nq, by rw [hwr.out, World.drewN_drewN]⟩
        · obtain rfl : j = 4 := by omega
          have hb0 : K.bytes = [] := List.length_eq_zero_iff.1 hbl
          have J : t = true ↔ KidsForm n B K := by
            have e4 : K.kids.take 4 = K.kids := List.take_of_length_le (by omega)
            unfold KidsInv at hinv
            rw [e4] at hinv
            exact ⟨fun e => ⟨hkl, hb0, hinv.1, hinv.2.1 e⟩, fun e => hinv.2.2 e.2.2.2⟩
          replace J := hid J
          clear hinv hkl hbl hb0 h hS
          cases t
          · go_wp2_with fail
            go_ret
            exact ⟨retE_no 4 (by omega) (by simpa using J.out), m, hwr.out⟩
          · go_wp2_with fail
            go_ret
            exact ⟨retE_yes (by simpa using J.out), m, hwr.out⟩
    · have h0' : ((bn : Int) == 0) = false := by simp; omega
      have h4' : ((kn : Int) == 4) = true := by simp; omega
      have J : Hid (¬ KidsForm n B K) := hid fun ⟨_, hb, _⟩ => h0 (by rw [← h.bytes.1, hb]; rfl)
      clear h hS
      go_enter Try.func113, Try.ntmps113
      go_wp2_with fail
      go_ret
      exact ⟨retE_no 4 (by omega) J.out, 0, rfl⟩
  · have h4' : ((kn : Int) == 4) = false := by simp; omega
    have J : Hid (¬ KidsForm n B K) := hid fun ⟨hk, _⟩ => h4 (by rw [← h.kids.1, hk])
    clear h hS
    go_enter Try.func113, Try.ntmps113
    go_wp2_with fail
    go_ret
    exact ⟨retE_no 4 (by omega) J.out, 0, rfl⟩

theorem RetE.iff {e : Ending} {p q : Prop} (h : RetE e p) (hq : p ↔ q) : RetE e q := by
  obtain ⟨c, rfl, hc⟩ := h
  exact ⟨c, rfl, hc.trans hq⟩
theorem form_free (n : Nat) (B : Nat → Blk) (K : Blk) (h : K.refs = 0) : Form n B K ↔ K.level = 0 ∧ K.kids = [] ∧ K.bytes = [] := by
  unfold Form
  exact ⟨fun e => by rcases e with e | e; · exact e.2
                     · exact absurd h (by have := e.1.1; omega), fun e => .inl ⟨h, e⟩⟩
theorem form_leaf (n : Nat) (B : Nat → Blk) (K : Blk) (h : 1 ≤ K.refs ∧ K.refs ≤ 1000000) (hl : K.level = 0) : Form n B K ↔ K.kids = [] ∧ K.bytes.length = 4 := by
  unfold Form
  refine ⟨fun e => ?_, fun e => .inr ⟨by omega, .inl ⟨hl, e⟩⟩⟩
  rcases e with e | ⟨_, e | e⟩
  · exact absurd e.1 (by omega)
  · exact e.2
  · exact absurd e.1 (by omega)
theorem form_kids (n : Nat) (B : Nat → Blk) (K : Blk) (h : 1 ≤ K.refs ∧ K.refs ≤ 1000000) (hl : 1 ≤ K.level ∧ K.level ≤ 3) : Form n B K ↔ KidsForm n B K := by
  unfold Form KidsForm
  refine ⟨fun e => ?_, fun e => .inr ⟨by omega, .inr ⟨hl.1, e⟩⟩⟩
  rcases e with e | ⟨_, e | e⟩
  · exact absurd e.1 (by omega)
  · exact absurd e.1 (by omega)
  · exact e.2
theorem form_range (n : Nat) (B : Nat → Blk) (K : Blk) (h : ¬ (0 ≤ K.refs ∧ K.refs ≤ 1000000 ∧ 0 ≤ K.level ∧ K.level ≤ 3)) : ¬ Form n B K := fun e => h e.bounds

set_option maxHeartbeats 1000000 in
set_option maxRecDepth 100000 in
theorem checkBlock_any (p : Addr) (a : Option Addr) (n c : Nat) (B : Nat → Blk) (b off : Nat) (Q : Nat → Prop) (K : Blk) (ka : Option Addr) (kn kc : Nat) (ba : Option Addr) (bn bc : Nat) (w : World)
    (hn : n ≤ 400) (hs : w.cell? p = some (.slice a n c)) (hS : StoreAt w a n B) (h : BlkAt Q w b off K ka kn kc ba bn bc) :
    Calls Try.prog 93 #[.pointer (some p), .pointer (some ⟨b, off, none⟩)] w fun e w' => RetE e (Form n B K) ∧ ∃ m, w' = w.drewN m := by
  have c0 := h.c0
  have c1 := h.c1
  have c2 := h.c2
  have c3 := h.c3
  have hkl : K.kids = [] ↔ kn = 0 := by rw [← h.kids.1]; exact List.length_eq_zero_iff.symm
  have hbl : K.bytes = [] ↔ bn = 0 := by rw [← h.bytes.1]; exact List.length_eq_zero_iff.symm
  have hr := h.refs
  have hl := h.level
  replace hS := hid hS
  replace h := hid h
  by_cases hr0 : K.refs = 0
  · have hr0' : (K.refs == 0) = true := by simp [hr0]
    have J := hid (form_free n B K hr0)
    generalize hRefs : K.refs = r at *
    generalize hLev : K.level = lv at *
    replace hRefs := hid hRefs
    replace hLev := hid hLev
    have J2 : Hid (Form n B K ↔ lv = 0 ∧ kn = 0 ∧ bn = 0) := hid (by rw [J.out, hkl, hbl])
    clear J hkl hbl
    by_cases hlv : lv = 0
    · have hlv' : (lv == 0) = true := by simp [hlv]
      by_cases hk : kn = 0
      · by_cases hb : bn = 0
        · have hk' : ((kn : Int) == 0) = true := by simp [hk]
          have hb' : ((bn : Int) == 0) = true := by simp [hb]
          go_enter Try.func93, Try.ntmps93
          go_wp2_with fail
          go_ret
          exact ⟨retE_yes (J2.out.2 ⟨hlv, hk, hb⟩), 0, rfl⟩
        · have hk' : ((kn : Int) == 0) = true := by simp [hk]
          have hb' : ((bn : Int) == 0) = false := by simp; omega
          go_enter Try.func93, Try.ntmps93
          go_wp2_with fail
          go_ret
          exact ⟨retE_no 4 (by omega) (fun e => hb (J2.out.1 e).2.2), 0, rfl⟩
      · have hk' : ((kn : Int) == 0) = false := by simp; omega
        go_enter Try.func93, Try.ntmps93
        go_wp2_with fail
        go_ret
        exact ⟨retE_no 4 (by omega) (fun e => hk (J2.out.1 e).2.1), 0, rfl⟩
    · have hlv' : (lv == 0) = false := by simp [hlv]
      go_enter Try.func93, Try.ntmps93
      go_wp2_with fail
      go_ret
      exact ⟨retE_no 4 (by omega) (fun e => hlv (J2.out.1 e).1), 0, rfl⟩
  · have hr0' : (K.refs == 0) = false := by simp [hr0]
    clear hkl hbl
    have R := hid (form_range n B K)
    have L := hid (form_leaf n B K)
    have N := hid (form_kids n B K)
    generalize K.refs = r at *
    generalize hLev : K.level = lv at *
    replace hLev := hid hLev
    by_cases r1 : r < 0
    · go_enter Try.func93, Try.ntmps93
      go_wp2_with fail
      go_ret
      exact ⟨retE_no 3 (by omega) (R.out (by omega)), 0, rfl⟩
    · by_cases r2 : 1000000 < r
      · go_enter Try.func93, Try.ntmps93
        go_wp2_with fail
        go_ret
        exact ⟨retE_no 3 (by omega) (R.out (by omega)), 0, rfl⟩
      · by_cases l1 : lv < 0
        · go_enter Try.func93, Try.ntmps93
          go_wp2_with fail
          go_ret
          exact ⟨retE_no 3 (by omega) (R.out (by omega)), 0, rfl⟩
        · by_cases l2 : 3 < lv
          · go_enter Try.func93, Try.ntmps93
            go_wp2_with fail
            go_ret
            exact ⟨retE_no 3 (by omega) (R.out (by omega)), 0, rfl⟩
          · by_cases l0 : lv = 0
            · have l0' : (lv == 0) = true := by simp [l0]
              go_enter Try.func93, Try.ntmps93
              go_wp2_with fail
              refine (checkLeaf_any b off Q K ka kn kc ba bn bc _ h.out).mono ?_
              rintro e w1 ⟨he, rfl⟩
              replace he := he.iff (L.out (by omega) l0).symm
              obtain ⟨c, rfl, hc⟩ := he
              replace hc := hid hc
              go_wp2_with fail
              go_ret
              exact ⟨⟨c, rfl, hc.out⟩, 0, rfl⟩
            · have l0' : (lv == 0) = false := by simp [l0]
              go_enter Try.func93, Try.ntmps93
              go_wp2_with fail
              refine (checkKids_any p a n c B b off Q K ka kn kc ba bn bc _ hn hs hS.out h.out ?_).mono ?_
              · rw [hLev.out]; omega
              rintro e w1 ⟨he, m, rfl⟩
              replace he := he.iff (N.out (by omega) (by omega)).symm
              obtain ⟨c, rfl, hc⟩ := he
              replace hc := hid hc
              go_wp2_with fail
              go_ret
              exact ⟨⟨c, rfl, hc.out⟩, m, rfl⟩

end Go.Proofs.Ytaagnojdpedilac
