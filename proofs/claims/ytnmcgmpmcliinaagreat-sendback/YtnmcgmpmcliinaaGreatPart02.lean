/-
  Blocks1, Blocks2 in one text. Nothing here is trusted.
-/
import Derived.Test.YtnmcgmpmcliinaaGreatPart01
import Derived.Deep.QuietTactic
import Derived.BigQuiet
set_option linter.unusedVariables false
namespace Go.Proofs.YtnmcgmpmcliinaaGreat
open Go.RowKit

theorem below_drewN (B : Nat) (w : World) (n : Nat) : Below B w (w.drewN n) := ⟨rfl, rfl, rfl, Nat.le_refl _, fun _ _ => rfl⟩
/-- it answers whether p -/
def RetB (e : Ending) (p : Prop) : Prop := ∃ t, e = .returned (.bool t) ∧ (t = true ↔ p)
/-- it answers 0 just if p -/
def RetE (e : Ending) (p : Prop) : Prop := ∃ c : Int, e = .returned (.int .i64 c) ∧ (c = 0 ↔ p)

theorem at_ptr (p : Addr) (b off n c i : Nat) (w : World) (hn : n ≤ 400) (hs : w.cell? p = some (.slice (some ⟨b, off, none⟩) n c)) (hi : i < n) :
    Calls Tryz.prog 121 #[.pointer (some p), .int .i64 ((i : Int) + 1)] w fun e w' => e = .returned (.pointer (some ⟨b, off + i * 4, none⟩)) ∧ w' = w := by
  go_enter Tryz.func121, Tryz.ntmps121
  go_wp2
  go_ret
  exact ⟨rfl, rfl⟩

theorem there_any (p : Addr) (a : Option Addr) (n c : Nat) (B : Nat → Blk) (x : Int) (w : World) (hn : n ≤ 400) (hs : w.cell? p = some (.slice a n c)) (hS : StoreAt w a n B) :
    Calls Tryz.prog 139 #[.pointer (some p), .int .i64 x] w fun e w' => RetB e (There n B x) ∧ w' = w := by
  by_cases h1 : x < 1
  · go_enter Tryz.func139, Tryz.ntmps139
    go_wp2_with fail
    go_ret
    exact ⟨⟨_, rfl, by simp [There]; omega⟩, rfl⟩
  · by_cases h2 : (n : Int) < x
    · go_enter Tryz.func139, Tryz.ntmps139
      go_wp2_with fail
      go_ret
      exact ⟨⟨_, rfl, by simp [There]; omega⟩, rfl⟩
    · obtain ⟨i, rfl⟩ : ∃ i : Nat, x = (i : Int) + 1 := ⟨(x - 1).toNat, by omega⟩
      have hi : i < n := by omega
      obtain ⟨b, off, rfl, hlt, hB⟩ := hS (by omega)
      obtain ⟨ka, kn, kc, ba, bn, bc, hb⟩ := hB i hi
      have hc := hb.c0
      have hr : ((!(B i).refs == 0) = true ↔ There n B ((i : Int) + 1)) := by
        have e : ((i : Int) + 1 - 1).toNat = i := by omega
        simp only [There, e]
        simp; omega
      replace hr := hid hr
      clear hb hB hS
      generalize (B i).refs = r at *
      go_enter Tryz.func139, Tryz.ntmps139
      go_wp2_with fail
      refine (at_ptr p b off n c i _ hn hs hi).mono ?_
      rintro e w1 ⟨rfl, rfl⟩
      go_wp2_with fail
      go_ret
      exact ⟨⟨_, rfl, hr.out⟩, rfl⟩

theorem there_yes (p : Addr) (a : Option Addr) (n c : Nat) (B : Nat → Blk) (x : Int) (w : World) (hn : n ≤ 400) (hs : w.cell? p = some (.slice a n c)) (hS : StoreAt w a n B) (h : There n B x) :
    Calls Tryz.prog 139 #[.pointer (some p), .int .i64 x] w fun e w' => e = .returned (.bool true) ∧ w' = w := by
  refine (there_any p a n c B x w hn hs hS).mono ?_
  rintro e w' ⟨⟨t, rfl, ht⟩, rfl⟩
  exact ⟨by rw [ht.2 h], rfl⟩
theorem there_no (p : Addr) (a : Option Addr) (n c : Nat) (B : Nat → Blk) (x : Int) (w : World) (hn : n ≤ 400) (hs : w.cell? p = some (.slice a n c)) (hS : StoreAt w a n B) (h : ¬ There n B x) :
    Calls Tryz.prog 139 #[.pointer (some p), .int .i64 x] w fun e w' => e = .returned (.bool false) ∧ w' = w := by
  refine (there_any p a n c B x w hn hs hS).mono ?_
  rintro e w' ⟨⟨t, rfl, ht⟩, rfl⟩
  refine ⟨?_, rfl⟩
  cases t
  · rfl
  · exact absurd (ht.1 rfl) h

theorem checkLeaf_any (b off : Nat) (Q : Nat → Prop) (K : Blk) (ka : Option Addr) (kn kc : Nat) (ba : Option Addr) (bn bc : Nat) (w : World) (h : BlkAt Q w b off K ka kn kc ba bn bc) :
    Calls Tryz.prog 127 #[.pointer (some ⟨b, off, none⟩)] w fun e w' => RetE e (K.kids = [] ∧ K.bytes.length = 4) ∧ w' = w := by
  have c2 := h.c2
  have c3 := h.c3
  have hk : K.kids = [] ↔ kn = 0 := by rw [← h.kids.1]; exact List.length_eq_zero_iff.symm
  have hb : K.bytes.length = 4 ↔ bn = 4 := by rw [h.bytes.1]
  clear h
  have hk : ∀ e, RetE e (K.kids = [] ∧ K.bytes.length = 4) ↔ RetE e (kn = 0 ∧ bn = 4) := fun e => by rw [hk, hb]
  simp only [hk]
  clear hk hb
  by_cases h0 : kn = 0
  · by_cases h4 : bn = 4
    · subst h0 h4
      go_enter Tryz.func127, Tryz.ntmps127
      go_wp2_with fail
      go_ret
      exact ⟨⟨_, rfl, by simp⟩, rfl⟩
    · have h4' : ((bn : Int) == 4) = false := by simp; omega
      have h0' : ((kn : Int) == 0) = true := by simp; omega
      go_enter Tryz.func127, Tryz.ntmps127
      go_wp2_with fail
      go_ret
      exact ⟨⟨_, rfl, by simp; omega⟩, rfl⟩
  · have h0' : ((kn : Int) == 0) = false := by simp; omega
    go_enter Tryz.func127, Tryz.ntmps127
    go_wp2_with fail
    go_ret
    exact ⟨⟨_, rfl, by simp; omega⟩, rfl⟩

/-- what holds after j kids -/
def KidsInv (n : Nat) (B : Nat → Blk) (lv : Int) (l : List Int) (j : Nat) (some : Bool) : Prop :=
  KidsOk n B lv (l.take j) ∧ (some = true ↔ ∃ k ∈ l.take j, k ≠ 0)
theorem kidsInv_zero (n : Nat) (B : Nat → Blk) (lv : Int) (l : List Int) : KidsInv n B lv l 0 false := by simp [KidsInv, KidsOk]
theorem take_snoc {l : List Int} {j : Nat} (h : j < l.length) : l.take (j + 1) = l.take j ++ [l.getD j 0] := by
  rw [List.take_add_one]; simp [List.getD, h]
theorem KidsInv.skip {n : Nat} {B : Nat → Blk} {lv : Int} {l : List Int} {j : Nat} {some : Bool} (h : KidsInv n B lv l j some) (hj : j < l.length) (h0 : l.getD j 0 = 0) : KidsInv n B lv l (j + 1) some := by
  unfold KidsInv KidsOk at *
  rw [take_snoc hj, h0]
  simp only [List.mem_append, List.mem_singleton]
  refine ⟨fun k hk => ?_, h.2.trans ⟨fun ⟨k, h1, h2⟩ => ⟨k, .inl h1, h2⟩, fun ⟨k, h1, h2⟩ => ⟨k, h1.resolve_right h2, h2⟩⟩⟩
  rcases hk with hk | hk
  · exact h.1 k hk
  · exact .inl hk
theorem KidsInv.next {n : Nat} {B : Nat → Blk} {lv : Int} {l : List Int} {j : Nat} {some : Bool} (h : KidsInv n B lv l j some) (hj : j < l.length) (h0 : l.getD j 0 ≠ 0) (ht : There n B (l.getD j 0)) (hl : (B (l.getD j 0 - 1).toNat).level = lv - 1) : KidsInv n B lv l (j + 1) true := by
  unfold KidsInv KidsOk at *
  rw [take_snoc hj]
  simp only [List.mem_append, List.mem_singleton]
  refine ⟨fun k hk => ?_, by simp only [true_iff]; exact ⟨_, .inr rfl, h0⟩⟩
  rcases hk with hk | hk
  · exact h.1 k hk
  · rw [hk]; exact .inr ⟨ht, hl⟩

/-- what checkKids answers 0 to -/
def KidsForm (n : Nat) (B : Nat → Blk) (K : Blk) : Prop := K.kids.length = 4 ∧ K.bytes = [] ∧ KidsOk n B K.level K.kids ∧ ∃ k ∈ K.kids, k ≠ 0

theorem retE_no {p : Prop} (c : Int) (hc : c ≠ 0) (h : ¬ p) : RetE (.returned (.int .i64 c)) p := ⟨c, rfl, fun e => absurd e hc, fun e => absurd e h⟩
theorem retE_yes {p : Prop} (h : p) : RetE (.returned (.int .i64 0)) p := ⟨0, rfl, fun _ => h, fun _ => rfl⟩

set_option maxHeartbeats 1000000 in
set_option maxRecDepth 100000 in
theorem checkKids_any (p : Addr) (a : Option Addr) (n c : Nat) (B : Nat → Blk) (b off : Nat) (Q : Nat → Prop) (K : Blk) (ka : Option Addr) (kn kc : Nat) (ba : Option Addr) (bn bc : Nat) (w : World)
    (hn : n ≤ 400) (hs : w.cell? p = some (.slice a n c)) (hS : StoreAt w a n B) (h : BlkAt Q w b off K ka kn kc ba bn bc) (hlv : 0 ≤ K.level ∧ K.level ≤ 3) :
    Calls Tryz.prog 128 #[.pointer (some p), .pointer (some ⟨b, off, none⟩)] w fun e w' => RetE e (KidsForm n B K) ∧ ∃ m, w' = w.drewN m := by
  have c1 := h.c1
  have c2 := h.c2
  have c3 := h.c3
  by_cases h4 : kn = 4
  · by_cases h0 : bn = 0
    · subst h4 h0
      go_enter Tryz.func128, Tryz.ntmps128
      go_wp2_with fail
      go_loopw [5, 27] (fun s i wr => ∃ (j : Nat) (t : Bool) (m : Nat), j ≤ 4 ∧ i = .int .i64 j ∧ s = .bool t ∧ KidsInv n B K.level K.kids j t ∧ wr = w.drewN m) (fun _ i _ => 4 - (Go.RowKit.intOf i).toNat)
      case atStart => exact ⟨0, false, 0, by omega, rfl, rfl, kidsInv_zero _ _ _ _, rfl⟩
      case round =>
        obtain ⟨j, t, m, hj, rfl, rfl, hinv, hwr⟩ := hrel
        have hkl := h.kids.1
        have hbl := h.bytes.1
        have hbel : Below w.heap.size w wr := hwr ▸ below_drewN w.heap.size w m
        replace h := h.below hbel
        replace hS := hS.below hbel
        replace hs : wr.cell? p = some (.slice a n c) := by rw [hwr]; exact hs
        replace c1 := h.c1
        clear c2 c3 hbel
        replace hwr := hid hwr
        by_cases hlt : j < 4
        · obtain ⟨kb, ko, rfl, hkb, _, hc⟩ := h.kids.2.2 (by omega)
          have hck : wr.cell? ⟨kb, ko + j, none⟩ = some (.int .i64 (K.kids.getD j 0)) := hc j hlt
          have hbd := h.kids.bd (h.kids.getD hlt)
          have hjl : j < K.kids.length := by omega
          have I1 := hid (fun e => hinv.skip hjl e)
          have I2 := hid (fun e f g => hinv.next hjl e f g)
          have I3 : Hid (K.kids.getD j 0 ∈ K.kids) := hid (h.kids.getD hlt)
          clear hc hinv hkl hbl hjl h
          generalize K.kids.getD j 0 = x at *
          by_cases hx0 : x = 0
          · have hx0' : (x == 0) = true := by simp [hx0]
            go_wp2_with fail
            go_roundw
            case rel => exact ⟨j + 1, t, m, by omega, by go_num, rfl, I1.out hx0, hwr.out⟩
            case measure => simp [Go.RowKit.intOf]; omega
          · have hx0' : (x == 0) = false := by simp [hx0]
            by_cases ht : There n B x
            · obtain ⟨i, rfl⟩ : ∃ i : Nat, x = (i : Int) + 1 := ⟨(x - 1).toNat, by have := ht.1; omega⟩
              have hi : i < n := by have := ht.2.1; omega
              obtain ⟨sb, so, rfl, hsb, hB⟩ := hS (by omega)
              obtain ⟨ka', kn', kc', ba', bn', bc', hb'⟩ := hB i hi
              have hlc := hb'.c1
              have ei : ((i : Int) + 1 - 1).toNat = i := by omega
              rw [ei] at I2
              have J3 : (B i).level ≠ K.level - 1 → ¬ KidsForm n B K := by
                intro hne ⟨_, _, hk, _⟩
                rcases hk _ I3.out with h | ⟨_, h⟩
                · omega
                · rw [ei] at h; exact hne h
              replace J3 := hid J3
              clear hB hb' ei
              replace hS := hid hS
              generalize hlev : (B i).level = lv at *
              replace hlev := hid hlev
              replace ht := hid ht
              generalize hkl : K.level = kl at *
              replace hkl := hid hkl
              by_cases hl : lv = kl - 1
              · have hl' : (lv == kl - 1) = true := by simp [hl]
                go_wp2_with fail
                go_quiet (first | (go_at_call 139; refine Calls.quiet_of_same (there_yes p (some ⟨sb, so, none⟩) n c B _ _ hn ?_ ?_ ht.out); exact hs; exact hS.out.below (below_drewN _ _ _)) | (go_at_call 121; refine Calls.quiet_of_same (at_ptr p sb so n c i _ hn ?_ hi); exact hs))
                go_wp2_with fail
                go_roundw
                case rel => exact ⟨j + 1, true, m + nq, by omega, by go_num, rfl, I2.out hx0 ht.out hl, by rw [hwr.out, World.drewN_drewN]⟩
                case measure => simp [Go.RowKit.intOf]; omega
              · have hl' : (lv == kl - 1) = false := by simp [hl]
                go_wp2_with fail
                go_quiet (first | (go_at_call 139; refine Calls.quiet_of_same (there_yes p (some ⟨sb, so, none⟩) n c B _ _ hn ?_ ?_ ht.out); exact hs; exact hS.out.below (below_drewN _ _ _)) | (go_at_call 121; refine Calls.quiet_of_same (at_ptr p sb so n c i _ hn ?_ hi); exact hs))
                go_wp2_with fail
                go_ret
                exact ⟨retE_no 5 (by omega) (J3.out hl), m + nq, by rw [hwr.out, World.drewN_drewN]⟩
            · have J3 : ¬ KidsForm n B K := by
                intro ⟨_, _, hk, _⟩
                rcases hk _ I3.out with h | ⟨h, _⟩
                · exact hx0 h
                · exact ht h
              replace J3 := hid J3
              replace hS := hid hS
              replace ht := hid ht
              go_wp2_with fail
              go_quiet (first | (go_at_call 139; refine Calls.quiet_of_same (there_no p a n c B _ _ hn ?_ ?_ ht.out); exact hs; exact hS.out.below (below_drewN _ _ _)))
              go_wp2_with fail
              go_ret
              exact ⟨retE_no 5 (by omega) J3.out, m + nq, by rw [hwr.out, World.drewN_drewN]⟩
        · obtain rfl : j = 4 := by omega
          have hb0 : K.bytes = [] := List.length_eq_zero_iff.1 hbl
          have J : t = true ↔ KidsForm n B K := by
            have e4 : K.kids.take 4 = K.kids := List.take_of_length_le (by omega)
            unfold KidsInv at hinv
            rw [e4] at hinv
            exact ⟨fun e => ⟨hkl, hb0, hinv.1, hinv.2.1 e⟩, fun e => hinv.2.2 e.2.2.2⟩
          replace J := hid J
          clear hinv hkl hbl hb0 h hS
          cases t
          · go_wp2_with fail
            go_ret
            exact ⟨retE_no 4 (by omega) (by simpa using J.out), m, hwr.out⟩
          · go_wp2_with fail
            go_ret
            exact ⟨retE_yes (by simpa using J.out), m, hwr.out⟩
    · have h0' : ((bn : Int) == 0) = false := by simp; omega
      have h4' : ((kn : Int) == 4) = true := by simp; omega
      have J : Hid (¬ KidsForm n B K) := hid fun ⟨_, hb, _⟩ => h0 (by rw [← h.bytes.1, hb]; rfl)
      clear h hS
      go_enter Tryz.func128, Tryz.ntmps128
      go_wp2_with fail
      go_ret
      exact ⟨retE_no 4 (by omega) J.out, 0, rfl⟩
  · have h4' : ((kn : Int) == 4) = false := by simp; omega
    have J : Hid (¬ KidsForm n B K) := hid fun ⟨hk, _⟩ => h4 (by rw [← h.kids.1, hk])
    clear h hS
    go_enter Tryz.func128, Tryz.ntmps128
    go_wp2_with fail
    go_ret
    exact ⟨retE_no 4 (by omega) J.out, 0, rfl⟩

theorem RetE.iff {e : Ending} {p q : Prop} (h : RetE e p) (hq : p ↔ q) : RetE e q := by
  obtain ⟨c, rfl, hc⟩ := h
  exact ⟨c, rfl, hc.trans hq⟩
theorem form_free (n : Nat) (B : Nat → Blk) (K : Blk) (h : K.refs = 0) : Form n B K ↔ K.level = 0 ∧ K.kids = [] ∧ K.bytes = [] := by
  unfold Form
  exact ⟨fun e => by rcases e with e | e; · exact e.2
                     · exact absurd h (by have := e.1.1; omega), fun e => .inl ⟨h, e⟩⟩
theorem form_leaf (n : Nat) (B : Nat → Blk) (K : Blk) (h : 1 ≤ K.refs ∧ K.refs ≤ 1000000) (hl : K.level = 0) : Form n B K ↔ K.kids = [] ∧ K.bytes.length = 4 := by
  unfold Form
  refine ⟨fun e => ?_, fun e => .inr ⟨by omega, .inl ⟨hl, e⟩⟩⟩
  rcases e with e | ⟨_, e | e⟩
  · exact absurd e.1 (by omega)
  · exact e.2
  · exact absurd e.1 (by omega)
theorem form_kids (n : Nat) (B : Nat → Blk) (K : Blk) (h : 1 ≤ K.refs ∧ K.refs ≤ 1000000) (hl : 1 ≤ K.level ∧ K.level ≤ 3) : Form n B K ↔ KidsForm n B K := by
  unfold Form KidsForm
  refine ⟨fun e => ?_, fun e => .inr ⟨by omega, .inr ⟨hl.1, e⟩⟩⟩
  rcases e with e | ⟨_, e | e⟩
  · exact absurd e.1 (by omega)
  · exact absurd e.1 (by omega)
  · exact e.2
theorem form_range (n : Nat) (B : Nat → Blk) (K : Blk) (h : ¬ (0 ≤ K.refs ∧ K.refs ≤ 1000000 ∧ 0 ≤ K.level ∧ K.level ≤ 3)) : ¬ Form n B K := fun e => h e.bounds

set_option maxHeartbeats 1000000 in
set_option maxRecDepth 100000 in
theorem checkBlock_any (p : Addr) (a : Option Addr) (n c : Nat) (B : Nat → Blk) (b off : Nat) (Q : Nat → Prop) (K : Blk) (ka : Option Addr) (kn kc : Nat) (ba : Option Addr) (bn bc : Nat) (w : World)
    (hn : n ≤ 400) (hs : w.cell? p = some (.slice a n c)) (hS : StoreAt w a n B) (h : BlkAt Q w b off K ka kn kc ba bn bc) :
    Calls Tryz.prog 88 #[.pointer (some p), .pointer (some ⟨b, off, none⟩)] w fun e w' => RetE e (Form n B K) ∧ ∃ m, w' = w.drewN m := by
  have c0 := h.c0
  have c1 := h.c1
  have c2 := h.c2
  have c3 := h.c3
  have hkl : K.kids = [] ↔ kn = 0 := by rw [← h.kids.1]; exact List.length_eq_zero_iff.symm
  have hbl : K.bytes = [] ↔ bn = 0 := by rw [← h.bytes.1]; exact List.length_eq_zero_iff.symm
  have hr := h.refs
  have hl := h.level
  replace hS := hid hS
  replace h := hid h
  by_cases hr0 : K.refs = 0
  · have hr0' : (K.refs == 0) = true := by simp [hr0]
    have J := hid (form_free n B K hr0)
    generalize hRefs : K.refs = r at *
    generalize hLev : K.level = lv at *
    replace hRefs := hid hRefs
    replace hLev := hid hLev
    have J2 : Hid (Form n B K ↔ lv = 0 ∧ kn = 0 ∧ bn = 0) := hid (by rw [J.out, hkl, hbl])
    clear J hkl hbl
    by_cases hlv : lv = 0
    · have hlv' : (lv == 0) = true := by simp [hlv]
      by_cases hk : kn = 0
      · by_cases hb : bn = 0
        · have hk' : ((kn : Int) == 0) = true := by simp [hk]
          have hb' : ((bn : Int) == 0) = true := by simp [hb]
          go_enter Tryz.func88, Tryz.ntmps88
          go_wp2_with fail
          go_ret
          exact ⟨retE_yes (J2.out.2 ⟨hlv, hk, hb⟩), 0, rfl⟩
        · have hk' : ((kn : Int) == 0) = true := by simp [hk]
          have hb' : ((bn : Int) == 0) = false := by simp; omega
          go_enter Tryz.func88, Tryz.ntmps88
          go_wp2_with fail
          go_ret
          exact ⟨retE_no 4 (by omega) (fun e => hb (J2.out.1 e).2.2), 0, rfl⟩
      · have hk' : ((kn : Int) == 0) = false := by simp; omega
        go_enter Tryz.func88, Tryz.ntmps88
        go_wp2_with fail
        go_ret
        exact ⟨retE_no 4 (by omega) (fun e => hk (J2.out.1 e).2.1), 0, rfl⟩
    · have hlv' : (lv == 0) = false := by simp [hlv]
      go_enter Tryz.func88, Tryz.ntmps88
      go_wp2_with fail
      go_ret
      exact ⟨retE_no 4 (by omega) (fun e => hlv (J2.out.1 e).1), 0, rfl⟩
  · have hr0' : (K.refs == 0) = false := by simp [hr0]
    clear hkl hbl
    have R := hid (form_range n B K)
    have L := hid (form_leaf n B K)
    have N := hid (form_kids n B K)
    generalize K.refs = r at *
    generalize hLev : K.level = lv at *
    replace hLev := hid hLev
    by_cases r1 : r < 0
    · go_enter Tryz.func88, Tryz.ntmps88
      go_wp2_with fail
      go_ret
      exact ⟨retE_no 3 (by omega) (R.out (by omega)), 0, rfl⟩
    · by_cases r2 : 1000000 < r
      · go_enter Tryz.func88, Tryz.ntmps88
        go_wp2_with fail
        go_ret
        exact ⟨retE_no 3 (by omega) (R.out (by omega)), 0, rfl⟩
      · by_cases l1 : lv < 0
        · go_enter Tryz.func88, Tryz.ntmps88
          go_wp2_with fail
          go_ret
          exact ⟨retE_no 3 (by omega) (R.out (by omega)), 0, rfl⟩
        · by_cases l2 : 3 < lv
          · go_enter Tryz.func88, Tryz.ntmps88
            go_wp2_with fail
            go_ret
            exact ⟨retE_no 3 (by omega) (R.out (by omega)), 0, rfl⟩
          · by_cases l0 : lv = 0
            · have l0' : (lv == 0) = true := by simp [l0]
              go_enter Tryz.func88, Tryz.ntmps88
              go_wp2_with fail
              refine (checkLeaf_any b off Q K ka kn kc ba bn bc _ h.out).mono ?_
              rintro e w1 ⟨he, rfl⟩
              replace he := he.iff (L.out (by omega) l0).symm
              obtain ⟨c, rfl, hc⟩ := he
              replace hc := hid hc
              go_wp2_with fail
              go_ret
              exact ⟨⟨c, rfl, hc.out⟩, 0, rfl⟩
            · have l0' : (lv == 0) = false := by simp [l0]
              go_enter Tryz.func88, Tryz.ntmps88
              go_wp2_with fail
              refine (checkKids_any p a n c B b off Q K ka kn kc ba bn bc _ hn hs hS.out h.out ?_).mono ?_
              · rw [hLev.out]; omega
              rintro e w1 ⟨he, m, rfl⟩
              replace he := he.iff (N.out (by omega) (by omega)).symm
              obtain ⟨c, rfl, hc⟩ := he
              replace hc := hid hc
              go_wp2_with fail
              go_ret
              exact ⟨⟨c, rfl, hc.out⟩, m, rfl⟩

end Go.Proofs.YtnmcgmpmcliinaaGreat

namespace Go.Proofs.YtnmcgmpmcliinaaGreat
open Go.RowKit

theorem Tryz.infoInt : (Tryz.prog.info? 3).map (fun i => (i.zero, i.size, i.bytes)) = some (some (.int .i64 0), 1, 8) := by kernel_rfl

theorem kid_ix {n : Nat} {B : Nat → Blk} {x : Int} {q : Prop} (h : x = 0 ∨ (There n B x ∧ q)) (h0 : ¬ x = 0) : ∃ m : Nat, x = (m : Int) + 1 ∧ m < n := by
  rcases h with h | ⟨⟨h1, h2, _⟩, _⟩
  · exact absurd h h0
  · exact ⟨(x - 1).toNat, by omega, by omega⟩

/-- a row of n numbers, the k-th f k -/
def rowOf (n : Nat) (f : Nat → Int) : List Value := (List.range n).map fun k => .int .i64 (f k)
theorem rowOf_length (n : Nat) (f : Nat → Int) : (rowOf n f).length = n := by simp [rowOf]
theorem rowOf_congr {n : Nat} {f g : Nat → Int} (h : ∀ k, k < n → f k = g k) : rowOf n f = rowOf n g := by
  unfold rowOf
  apply List.map_congr_left
  intro k hk
  rw [h k (by simpa using hk)]
theorem rowOf_set (n : Nat) (f : Nat → Int) (i : Nat) (v : Int) : (rowOf n f).set i (.int .i64 v) = rowOf n (fun k => if k = i then v else f k) := by
  unfold rowOf
  apply List.ext_getElem
  · simp
  · intro k h1 h2
    simp only [List.getElem_set, List.getElem_map, List.getElem_range]
    by_cases e : i = k
    · subst e; simp
    · simp [e, show ¬ k = i by omega]
theorem rowOf_getD (n : Nat) (f : Nat → Int) (i : Nat) (hi : i < n) : (rowOf n f).getD i (.int .i64 0) = .int .i64 (f i) := by simp [rowOf, List.getD, hi]
theorem made_ints (n : Nat) : (madeCells (Value.cells (.int .i64 0)) (n * 1)).toList = rowOf n (fun _ => 0) := by
  apply List.ext_getElem
  · simp [madeCells, rowOf]
  · intro i h1 h2
    simp [madeCells, Value.cells, Nat.mod_one, rowOf]

/-- a row of one's own -/
def Row (w : World) (base g n : Nat) (f : Nat → Int) : Prop := w.ownsRow base 3 1 (.slice (some ⟨g, 0, none⟩) n n) n (rowOf n f)
theorem Row.congr {w : World} {base g n : Nat} {f h : Nat → Int} (r : Row w base g n f) (e : ∀ k, k < n → f k = h k) : Row w base g n h := by
  unfold Row at *
  rw [← rowOf_congr e]; exact r
theorem Row.cell {w : World} {base g n : Nat} {f : Nat → Int} (r : Row w base g n f) {k : Nat} (hk : k < n) : w.cell? ⟨g, k, none⟩ = some (.int .i64 (f k)) := by
  unfold Row at r
  rw [r.cellAt k (by omega)]
  simp [rowOf, hk]
theorem Row.frozen {w : World} {base g n : Nat} {f : Nat → Int} (r : Row w base g n f) (k : Nat) : w.frozen? ⟨g, k, none⟩ = false := by
  unfold Row at r
  exact r.frozenAt k
theorem Row.set {w : World} {base g n : Nat} {f : Nat → Int} (r : Row w base g n f) (k : Nat) (v : Int) : Row (w.setCell ⟨g, k, none⟩ (.int .i64 v)) base g n (fun j => if j = k then v else f j) := by
  unfold Row at *
  rw [← rowOf_set]
  exact (r.stored k (.int .i64 v)).1
theorem Row.lt {w : World} {base g n : Nat} {f : Nat → Int} (r : Row w base g n f) : base ≤ g ∧ g < w.heap.size := by
  unfold Row at r
  exact r.lt g rfl

/-- the counts, when all kids of the first i blocks and the first j of block i are told -/
def cnt (B : Nat → Blk) (i j : Nat) (k : Nat) : Int := (among i B ((k : Int) + 1) : Int) + (((B i).kids.take j).count ((k : Int) + 1) : Int)
theorem cnt_zero (B : Nat → Blk) (k : Nat) : cnt B 0 0 k = 0 := by simp [cnt, among, sumTo]
theorem cnt_next (B : Nat → Blk) (i : Nat) (k : Nat) (j : Nat) (h : (B i).kids.length ≤ j) : cnt B (i + 1) 0 k = cnt B i j k := by
  unfold cnt
  rw [List.take_of_length_le h]
  simp [among, sumTo]
theorem cnt_kid (B : Nat → Blk) (i j k : Nat) (h : j < (B i).kids.length) : cnt B i (j + 1) k = if (B i).kids.getD j 0 = (k : Int) + 1 then cnt B i j k + 1 else cnt B i j k := by
  unfold cnt
  rw [take_snoc h, List.count_append]
  by_cases e : (B i).kids.getD j 0 = (k : Int) + 1
  · rw [e]; simp; omega
  · rw [if_neg e, List.count_cons_of_ne e]; simp
theorem among_le {n : Nat} {B : Nat → Blk} (x : Int) : ∀ i, (∀ j, j < i → (B j).kids.length ≤ 4) → among i B x ≤ 4 * i
  | 0, _ => by simp [among, sumTo]
  | i + 1, h => by
    have := among_le (n := n) (B := B) x i (fun j hj => h j (by omega))
    have h2 := h i (by omega)
    have h3 : (B i).kids.count x ≤ (B i).kids.length := List.count_le_length
    unfold among at this ⊢
    simp only [sumTo]
    omega
theorem cnt_bd {n : Nat} {B : Nat → Blk} (i j k : Nat) (hi : i < n) (h : ∀ j, j < n → (B j).kids.length ≤ 4) : 0 ≤ cnt B i j k ∧ cnt B i j k ≤ 4 * i + 4 := by
  have h1 := among_le (n := n) (B := B) ((k : Int) + 1) i (fun j hj => h j (by omega))
  have h2 : ((B i).kids.take j).count ((k : Int) + 1) ≤ ((B i).kids.take j).length := List.count_le_length
  have h3 := h i hi
  simp at h2
  unfold cnt
  omega
theorem Form.few {n : Nat} {B : Nat → Blk} {b : Blk} (h : Form n B b) : b.kids.length ≤ 4 := by
  rcases h with ⟨_, _, h, _⟩ | ⟨_, ⟨_, h, _⟩ | ⟨_, h, _⟩⟩
  · simp [h]
  · simp [h]
  · omega

set_option maxHeartbeats 1000000 in
set_option maxRecDepth 100000 in
theorem amongKids_any (p : Addr) (a : Option Addr) (n c : Nat) (B : Nat → Blk) (w : World)
    (hn : n ≤ 400) (hp : p.block < w.heap.size) (hs : w.cell? p = some (.slice a n c)) (hS : StoreAt w a n B) (hF : ∀ i, i < n → Form n B (B i)) :
    Calls Tryz.prog 89 #[.pointer (some p)] w fun e w' => e = .returned (.slice (some ⟨w.heap.size, 0, none⟩) n n) ∧ Row w' w.heap.size w.heap.size n (fun k => among n B ((k : Int) + 1)) ∧ Below w.heap.size w w' := by
  obtain ⟨i0, hi, hz0, hz1, hz2⟩ := info_parts Tryz.infoInt
  have hlen : ∀ j, j < n → (B j).kids.length ≤ 4 := fun j hj => (hF j hj).few
  go_enter Tryz.func89, Tryz.ntmps89
  go_wp2_with (at_make; refine wpList_make_full _ rfl (.tmp 11) (.tmp 11) 77 rfl w.heap.size 3 i0 (.int .i64 0) 1 Tryz.underlying77 hi hz0 hz1 .i64 .i64 n n n rfl rfl rfl rfl (by rw [hz2]; omega) (by unfold maxLen; omega) (by simp) ?_; intro w2 hown hgr; have hb2 : Below w.heap.size w w2 := (Below.refl _ _).grown hgr (by simp) (by simp); have hs2 : w2.cell? p = some (.slice a n c) := (hb2.cell hp).trans hs)
  rw [made_ints] at hown
  go_loopw [18] (fun v wr => ∃ i : Nat, i ≤ n ∧ v = .int .i64 i ∧ Row wr w.heap.size w.heap.size n (cnt B i 0) ∧ Below w.heap.size w wr) (fun v _ => n - (Go.RowKit.intOf v).toNat)
  case atStart => exact ⟨0, Nat.zero_le _, rfl, Row.congr (f := fun _ => 0) hown (fun k _ => (cnt_zero B k).symm), hb2⟩
  case round =>
    clear hown hgr hb2 hs2
    obtain ⟨i, hin, rfl, hrow, hbel⟩ := hrel
    have hsr : wr.cell? p = some (.slice a n c) := (hbel.cell hp).trans hs
    by_cases hlt : i < n
    · obtain ⟨b, off, rfl, hb, hB⟩ := hS (by omega)
      obtain ⟨ka, kn, kc, ba, bn, bc, hblk⟩ := hB i hlt
      have hK := (hF i hlt).kids
      have hkn := hblk.kids.1
      have hc2 : wr.cell? ⟨b, off + i * 4 + 2, none⟩ = some (.slice ka kn kc) := (hbel.cell hb).trans hblk.c2
      have hkids := hblk.kids
      have hkn4 : kn ≤ 4 := by rw [← hkn]; exact hlen i hlt
      clear hB hblk
      replace hK := hid hK
      replace hkn := hid hkn
      replace hkids := hid hkids
      replace hrow := hid hrow
      go_wp2_with fail
      go_loopw [30] (fun v wi => ∃ j : Nat, j ≤ kn ∧ v = .int .i64 j ∧ Row wi w.heap.size w.heap.size n (cnt B i j) ∧ Below w.heap.size w wi) (fun v _ => kn - (Go.RowKit.intOf v).toNat)
      case atStart => exact ⟨0, Nat.zero_le _, rfl, hrow.out, hbel⟩
      case round =>
        clear hrow hbel hsr hc2
        obtain ⟨j, hjn, rfl, hrow, hbel⟩ := hrel
        by_cases hjlt : j < kn
        · obtain ⟨kb, ko, rfl, hkb, _, hc⟩ := hkids.out.2.2 (by omega)
          have hck : wr.cell? ⟨kb, ko + j, none⟩ = some (.int .i64 ((B i).kids.getD j 0)) := (hbel.cell hkb).trans (hc j hjlt)
          have hjl : j < (B i).kids.length := by rw [hkn.out]; exact hjlt
          have hmem : (B i).kids.getD j 0 ∈ (B i).kids := hkids.out.getD hjlt
          have hkk := hK.out _ hmem
          have hstep := hid (fun k => cnt_kid B i j k hjl)
          clear hc hmem hjl
          generalize (B i).kids.getD j 0 = x at *
          by_cases hx0 : x = 0
          · have hx0' : (x == 0) = true := by simp [hx0]
            have hrow' := hid (hrow.congr (h := cnt B i (j + 1)) (fun k _ => by rw [hstep.out, if_neg (by omega)]))
            clear hrow hkk hstep
            go_wp2_with fail
            go_roundw
            case rel => exact ⟨j + 1, by omega, by go_num, hrow'.out, hbel⟩
            case measure => simp [Go.RowKit.intOf]; omega
          · obtain ⟨m, rfl, hm⟩ := kid_ix hkk hx0
            have hx0' : (((m : Int) + 1) == 0) = false := by simp [hx0]
            have hrc := hrow.cell hm
            have hrf := hrow.frozen m
            have hbd := cnt_bd (n := n) (B := B) i j m hlt hlen
            have hrow' := hid ((hrow.set m (cnt B i j m + 1)).congr (h := cnt B i (j + 1)) (fun k _ => by
              rw [hstep.out]
              by_cases e : k = m
              · subst e; simp
              · rw [if_neg e, if_neg (by omega)]))
            clear hrow hkk hstep
            generalize cnt B i j m = cv at *
            go_wp2_with fail
            go_roundw
            case rel => exact ⟨j + 1, by omega, by go_num, hrow'.out, hbel.setCell (Nat.le_refl _) _⟩
            case measure => simp [Go.RowKit.intOf]; omega
        · obtain rfl : j = kn := by omega
          have hrow' := hid (hrow.congr (h := cnt B (i + 1) 0) (fun k _ => (cnt_next B i k j (by rw [hkn.out]; exact Nat.le_refl _)).symm))
          clear hrow
          go_wp2_with fail
          go_roundw
          case rel => exact ⟨i + 1, by omega, by go_num, hrow'.out, hbel⟩
          case measure => simp [Go.RowKit.intOf]; omega
    · obtain rfl : i = n := by omega
      replace hrow := hid hrow
      go_wp2_with fail
      go_ret
      exact ⟨rfl, hrow.out.congr (fun k _ => by simp [cnt]), hbel⟩

/-- a pointer to a store -/
structure PtrAt (w : World) (p : Addr) (a : Option Addr) (n c : Nat) (B : Nat → Blk) : Prop where
  lt : p.block < w.heap.size
  cell : w.cell? p = some (.slice a n c)
  store : StoreAt w a n B
theorem PtrAt.below {w w' : World} {p : Addr} {a : Option Addr} {n c : Nat} {B : Nat → Blk} (h : PtrAt w p a n c B) (hb : Below w.heap.size w w') : PtrAt w' p a n c B :=
  ⟨Nat.lt_of_lt_of_le h.lt hb.size, (hb.cell h.lt).trans h.cell, h.store.below hb⟩

theorem right_iff {n : Nat} {B : Nat → Blk} (hn : n ≤ 400) (hF : ∀ i, i < n → Form n B (B i)) : Right n B ↔ ∀ i, i < n → ((among n B ((i : Int) + 1) : Nat) : Int) ≤ (B i).refs :=
  ⟨fun h i hi => by have := h.held i hi; simpa using this, fun h => ⟨hn, hF, fun i hi => by simpa using h i hi, by simp⟩⟩

set_option maxHeartbeats 1000000 in
set_option maxRecDepth 100000 in
theorem check_any (p : Addr) (a : Option Addr) (n c : Nat) (B : Nat → Blk) (w : World) (h : PtrAt w p a n c B) :
    Calls Tryz.prog 50 #[.pointer (some p)] w fun e w' => RetE e (Right n B) ∧ Below w.heap.size w w' := by
  have hs := h.cell
  by_cases hn : n ≤ 400
  · go_enter Tryz.func50, Tryz.ntmps50
    go_wp2_with fail
    go_loopw [18] (fun v wr => ∃ i : Nat, i ≤ n ∧ v = .int .i64 i ∧ (∀ k, k < i → Form n B (B k)) ∧ Below w.heap.size w wr) (fun v _ => n - (Go.RowKit.intOf v).toNat)
    case atStart => exact ⟨0, Nat.zero_le _, rfl, fun k hk => absurd hk (by omega), Below.refl _ _⟩
    case round =>
      obtain ⟨i, hin, rfl, hF, hbel⟩ := hrel
      replace h := h.below hbel
      replace hs := h.cell
      replace hF := hid hF
      by_cases hlt : i < n
      · obtain ⟨b, off, rfl, hb, hB⟩ := h.store (by omega)
        obtain ⟨ka, kn, kc, ba, bn, bc, hblk⟩ := hB i hlt
        clear hB
        replace hblk := hid hblk
        go_wp2_with fail
        refine (checkBlock_any p (some ⟨b, off, none⟩) n c B b (off + i * 4) _ (B i) ka kn kc ba bn bc _ hn hs h.store hblk.out).mono ?_
        rintro e w1 ⟨⟨c, rfl, hc⟩, m, rfl⟩
        replace hc := hid hc
        by_cases hc0 : c = 0
        · have hc0' : (c == 0) = true := by simp [hc0]
          go_wp2_with fail
          go_roundw
          case rel => exact ⟨i + 1, by omega, by go_num, fun k hk => by rcases Nat.lt_or_ge k i with h' | h'; exact hF.out k h'; obtain rfl : k = i := by omega
                                                                        exact hc.out.1 hc0, hbel.trans (below_drewN _ _ _)⟩
          case measure => simp [Go.RowKit.intOf]; omega
        · have hc0' : (c == 0) = false := by simp [hc0]
          go_wp2_with fail
          go_ret
          exact ⟨retE_no c hc0 (fun e => hc0 (hc.out.2 (e.one i hlt))), hbel.trans (below_drewN _ _ _)⟩
      · obtain rfl : i = n := by omega
        go_wp2_with fail
        refine (amongKids_any p a i c B _ hn h.lt hs h.store hF.out).mono ?_
        rintro e w1 ⟨rfl, hrow, hb1⟩
        replace hbel := Below.tr hbel hb1
        replace h := h.below hb1
        replace hs := h.cell
        clear hb1
        generalize wr.heap.size = g at *
        replace hrow := hid hrow
        go_wp2_with fail
        go_loopw [36] (fun v wi => ∃ j : Nat, j ≤ i ∧ v = .int .i64 j ∧ (∀ k, k < j → ((among i B ((k : Int) + 1) : Nat) : Int) ≤ (B k).refs) ∧ wi = w1) (fun v _ => i - (Go.RowKit.intOf v).toNat)
        case atStart => exact ⟨0, Nat.zero_le _, rfl, fun k hk => absurd hk (by omega), rfl⟩
        case round =>
          obtain ⟨j, hji, rfl, hH, rfl⟩ := hrel
          replace hH := hid hH
          by_cases hjlt : j < i
          · have hrc := hrow.out.cell hjlt
            obtain ⟨b, off, rfl, hb, hB⟩ := h.store (by omega)
            obtain ⟨ka, kn, kc, ba, bn, bc, hblk⟩ := hB j hjlt
            have hrefs := hblk.c0
            clear hB hblk hb
            have J := hid ((right_iff hn hF.out).1)
            have J2 : Hid (((among i B ((j : Int) + 1) : Nat) : Int) ≤ (B j).refs → ∀ k, k < j + 1 → ((among i B ((k : Int) + 1) : Nat) : Int) ≤ (B k).refs) := hid (fun e k hk => by
              rcases Nat.lt_or_ge k j with h' | h'
              · exact hH.out k h'
              · obtain rfl : k = j := by omega
                exact e)
            have J3 : Hid (¬ ((among i B ((j : Int) + 1) : Nat) : Int) ≤ (B j).refs → ¬ Right i B) := hid (fun e f => e (J.out f j hjlt))
            clear J
            generalize ((among i B ((j : Int) + 1) : Nat) : Int) = am at *
            generalize (B j).refs = rf at *
            by_cases hle : am ≤ rf
            · have hle' : ¬ rf < am := by omega
              go_wp2_with fail
              go_roundw
              case rel => exact ⟨j + 1, by omega, by go_num, J2.out hle, trivial⟩
              case measure => simp [Go.RowKit.intOf]; omega
            · have hle' : rf < am := by omega
              go_wp2_with fail
              go_ret
              exact ⟨retE_no 7 (by omega) (J3.out (by omega)), hbel⟩
          · obtain rfl : j = i := by omega
            go_wp2_with fail
            go_ret
            exact ⟨retE_yes ((right_iff hn hF.out).2 hH.out), hbel⟩
  · have J : Hid (¬ Right n B) := hid fun e => hn e.small
    go_enter Tryz.func50, Tryz.ntmps50
    go_wp2_with fail
    go_ret
    exact ⟨retE_no 2 (by omega) J.out, Below.refl _ _⟩

end Go.Proofs.YtnmcgmpmcliinaaGreat
