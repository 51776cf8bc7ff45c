/-
  SetN, SetF, FileC in one text. Nothing here is trusted.
-/
import Derived.Test.YtihkljfcplfldaaGreatPart15
import Derived.Lib.Bytealg
import Derived.Lib.Walk
import Derived.Laws.Strings
import Derived.Laws.Externs
import Derived.Laws.EntriesVeiled
import Derived.Test.YtihkljfcplfldaaGreatPart14
set_option linter.unusedVariables false
namespace Go.Proofs.YtihkljfcplfldaaGreat
open Go.RowKit

theorem cb_lt : ∀ a b : List UInt8, Lib.compareBytes a b < 0 ↔ a < b
  | [], [] => by simp [Lib.compareBytes]
  | [], _ :: _ => by simp [Lib.compareBytes]
  | _ :: _, [] => by simp [Lib.compareBytes]
  | a :: xs, b :: ys => by
    rw [List.cons_lt_cons_iff]
    simp only [Lib.compareBytes]
    by_cases h : a < b
    · simp [h]
    · by_cases h2 : b < a
      · have hne : a ≠ b := fun e => by subst e; exact h h2
        simp [h, h2, hne]
      · have he : a = b := UInt8.le_antisymm (UInt8.not_lt.1 h2) (UInt8.not_lt.1 h)
        subst he
        simp [h, cb_lt xs ys]
theorem cb_eq : ∀ a b : List UInt8, Lib.compareBytes a b = 0 ↔ a = b
  | [], [] => by simp [Lib.compareBytes]
  | [], _ :: _ => by simp [Lib.compareBytes]
  | _ :: _, [] => by simp [Lib.compareBytes]
  | a :: xs, b :: ys => by
    simp only [Lib.compareBytes]
    by_cases h : a < b
    · have hne : a ≠ b := fun e => by subst e; exact absurd h (UInt8.lt_irrefl _)
      simp [h, hne]
    · by_cases h2 : b < a
      · have hne : a ≠ b := fun e => by subst e; exact h h2
        simp [h, h2, hne]
      · have he : a = b := UInt8.le_antisymm (UInt8.not_lt.1 h2) (UInt8.not_lt.1 h)
        subst he
        simp [h, cb_eq xs ys]

theorem cb_gt : ∀ a b : List UInt8, 0 < Lib.compareBytes a b ↔ b < a
  | [], [] => by simp [Lib.compareBytes]
  | [], _ :: _ => by simp [Lib.compareBytes]
  | _ :: _, [] => by simp [Lib.compareBytes]
  | a :: xs, b :: ys => by
    rw [List.cons_lt_cons_iff]
    simp only [Lib.compareBytes]
    by_cases h : a < b
    · have h2 : ¬ b < a := fun h2 => absurd (UInt8.lt_trans h h2) (UInt8.lt_irrefl _)
      have hne : b ≠ a := fun e => by subst e; exact absurd h (UInt8.lt_irrefl _)
      simp [h, h2, hne]
    · by_cases h2 : b < a
      · simp [h, h2]
      · have he : a = b := UInt8.le_antisymm (UInt8.not_lt.1 h2) (UInt8.not_lt.1 h)
        subst he
        simp [h, cb_gt xs ys]
theorem nm_tri (a b : List UInt8) : a < b ∨ a = b ∨ b < a := by
  rcases Int.lt_trichotomy (Lib.compareBytes a b) 0 with h | h | h
  · exact .inl ((cb_lt a b).1 h)
  · exact .inr (.inl ((cb_eq a b).1 h))
  · exact .inr (.inr ((cb_gt a b).1 h))
theorem nm_irrefl (a : List UInt8) : ¬ a < a := fun h => by
  have := (cb_lt a a).2 h
  have := (cb_eq a a).2 rfl
  omega
theorem nm_asymm {a b : List UInt8} (h : a < b) : ¬ b < a := fun h2 => nm_irrefl a (List.lt_trans h h2)
theorem less_bytes : ∀ x y : List UInt8, Op.bytesLess x y = true ↔ x < y
  | [], [] => by simp [Op.bytesLess]
  | _ :: _, [] => by simp [Op.bytesLess]
  | [], _ :: _ => by simp [Op.bytesLess]
  | a :: x, b :: y => by
    rw [Op.bytesLess]
    simp only [List.cons_lt_cons_iff, Bool.or_eq_true, Bool.and_eq_true, decide_eq_true_eq, beq_iff_eq, less_bytes x y]
theorem str_leq {P : Program} (t : TypeId) (s a : ByteArray) (w : World) : (binOp .leq t (.string s) (.string a)).run P w = .ok (.bool (!decide (a.data.toList < s.data.toList))) w := by
  have e : (Op.bytesLess s.toList a.toList || s.toList == a.toList) = !decide (a.data.toList < s.data.toList) := by
    rw [ByteArray.toList_eq, ByteArray.toList_eq, Bool.eq_iff_iff]
    simp only [Bool.or_eq_true, less_bytes, beq_iff_eq, Bool.not_eq_true', decide_eq_false_iff_not]
    constructor
    · rintro (h | h)
      · exact nm_asymm h
      · rw [h]; exact nm_irrefl _
    · intro h
      rcases nm_tri s.data.toList a.data.toList with h1 | h1 | h1
      · exact .inl h1
      · exact .inr h1
      · exact absurd h1 h
  simp [binOp, Op.stringOp, e]

set_option maxHeartbeats 1000000 in
set_option maxRecDepth 100000 in
theorem compareString_any (a b : ByteArray) (w : World) :
    Calls Tryz.prog 99 #[.string a, .string b] w fun e w' => e = .returned (.int .i64 (Lib.compareBytes a.data.toList b.data.toList)) ∧ w' = w := by
  go_enter Tryz.func99, Tryz.ntmps99
  go_wp2
  rw [run_callFunc_extern Tryz.func119 (by kernel_rfl) (by kernel_rfl) (by kernel_rfl) (e := Extern.BytealgCompare.compare) (by kernel_rfl), Lib.run_compareString]
  simp only [Result.andThen]
  rw [Oper.upon_value]
  go_wp2
  go_ret
  exact ⟨rfl, rfl⟩
set_option maxHeartbeats 1000000 in
theorem compare_any (a b : ByteArray) (w : World) :
    Calls Tryz.prog 73 #[.string a, .string b] w fun e w' => e = .returned (.int .i64 (Lib.compareBytes a.data.toList b.data.toList)) ∧ w' = w := by
  go_enter Tryz.func73, Tryz.ntmps73
  go_wp2_with (go_at_call 99; refine (compareString_any _ _ _).mono ?_; rintro e w' ⟨rfl, rfl⟩)
  go_ret
  exact ⟨rfl, rfl⟩

theorem isSign_any (c : UInt8) (w : World) :
    Calls Tryz.prog 96 #[.int .u8 (c.toNat : Int)] w fun e w' => RetB e (isLetter c) ∧ w' = w := by
  have hL : isLetter c ↔ ((97 : Int) ≤ (c.toNat : Int) ∧ (c.toNat : Int) ≤ 122) ∨ ((48 : Int) ≤ (c.toNat : Int) ∧ (c.toNat : Int) ≤ 57) := by
    unfold isLetter
    simp only [UInt8.le_iff_toNat_le]
    have h1 : (97 : UInt8).toNat = 97 := rfl
    have h2 : (122 : UInt8).toNat = 122 := rfl
    have h3 : (48 : UInt8).toNat = 48 := rfl
    have h4 : (57 : UInt8).toNat = 57 := rfl
    rw [h1, h2, h3, h4]
    omega
  have hL' := hid hL
  clear hL
  generalize (c.toNat : Int) = x at *
  go_enter Tryz.func96, Tryz.ntmps96
  go_wp2_with fail
  all_goals (go_ret; refine ⟨⟨_, rfl, ?_⟩, rfl⟩; rw [hL'.out]; simp; omega)

theorem str_at (s : ByteArray) (i : Nat) (hi : i < s.size) : s.data.toList[i]? = some s[i] := by
  have h : i < s.data.toList.length := by simpa using hi
  rw [List.getElem?_eq_getElem h]
  rfl
theorem str_size (s : ByteArray) : s.data.toList.length = s.size := rfl

set_option maxHeartbeats 1000000 in
set_option maxRecDepth 100000 in
theorem name_any (s : ByteArray) (w : World) (hs : s.size ≤ maxLen) :
    Calls Tryz.prog 69 #[.string s] w fun e w' => RetB e (IsName s) ∧ w' = w := by
  have hs' : s.size ≤ 9223372036854775807 := by unfold maxLen at hs; omega
  go_enter Tryz.func69, Tryz.ntmps69
  by_cases h0 : s.size = 0
  · have h0' : ((s.size : Int) == 0) = true := by simp [h0]
    go_wp2_with fail
    go_ret
    exact ⟨⟨false, rfl, by simp only [Bool.false_eq_true, false_iff]; intro h; have := h.1; rw [str_size] at this; omega⟩, rfl⟩
  · have h0' : ((s.size : Int) == 0) = false := by simp [h0]
    by_cases h8 : (8 : Int) < (s.size : Int)
    · go_wp2_with fail
      go_ret
      exact ⟨⟨false, rfl, by simp only [Bool.false_eq_true, false_iff]; intro h; have := h.2.1; rw [str_size] at this; omega⟩, rfl⟩
    · go_wp2_with fail
      go_loopw [14] (fun v wr => ∃ i : Nat, i ≤ s.size ∧ v = .int .i64 i ∧ wr = w ∧ ∀ c ∈ s.data.toList.take i, isLetter c) (fun v _ => s.size - (Go.RowKit.intOf v).toNat)
      case atStart => exact ⟨0, Nat.zero_le _, rfl, rfl, by simp⟩
      case round =>
        obtain ⟨i, hi, rfl, rfl, hc⟩ := hrel
        by_cases hlt : i < s.size
        · have hltI : (i : Int) < (s.size : Int) := by omega
          have hat := str_at s i hlt
          replace hc := hid hc
          replace hat := hid hat
          go_wp2_with fail
          refine (isSign_any s[i] _).mono ?_
          rintro e w1 ⟨⟨b, rfl, hb⟩, rfl⟩
          replace hb := hid hb
          cases b
          · go_wp2_with fail
            go_ret
            refine ⟨⟨false, rfl, ?_⟩, rfl⟩
            simp only [Bool.false_eq_true, false_iff]
            intro h
            have h1 : isLetter s[i] := h.2.2 _ (List.mem_of_getElem? hat.out)
            exact Bool.false_ne_true (hb.out.2 h1)
          · go_wp2_with fail
            go_roundw
            case rel =>
              refine ⟨i + 1, by omega, by go_num, trivial, fun c hcm => ?_⟩
              rw [List.take_add_one, hat.out] at hcm
              rcases List.mem_append.1 hcm with h | h
              · exact hc.out c h
              · simp at h
                rw [h]
                exact hb.out.1 trivial
            case measure => simp [Go.RowKit.intOf]; omega
        · obtain rfl : i = s.size := by omega
          have e1 : s.data.toList.take s.size = s.data.toList := List.take_of_length_le (Nat.le_refl _)
          rw [e1] at hc
          replace hc := hid hc
          clear e1
          go_wp2_with fail
          go_ret
          exact ⟨⟨true, rfl, by simp only [true_iff]; exact ⟨by rw [str_size]; omega, by rw [str_size]; omega, hc.out⟩⟩, rfl⟩

/-- a name that stands behind another one -/
theorem checkName_any (a s : ByteArray) (w : World) (hs : s.size ≤ maxLen) :
    Calls Tryz.prog 82 #[.string a, .string s] w fun e w' => RetE e (IsName s ∧ a.data.toList < s.data.toList) ∧ w' = w := by
  go_enter Tryz.func82, Tryz.ntmps82
  go_wp2_with fail
  refine (name_any s _ hs).mono ?_
  rintro e w1 ⟨⟨b, rfl, hb⟩, rfl⟩
  replace hb := hid hb
  cases b
  · go_wp2_with fail
    go_ret
    exact ⟨retE_no 1 (by omega) (fun h => Bool.false_ne_true (hb.out.2 h.1)), rfl⟩
  · have hN := hid (hb.out.1 rfl)
    have hle := fun w => str_leq (P := Tryz.prog) 9 s a w
    by_cases hlt : a.data.toList < s.data.toList
    · have hd : decide (a.data.toList < s.data.toList) = true := by simp [hlt]
      rw [hd] at hle
      replace hlt := hid hlt
      clear hd
      go_wp2_with fail
      go_ret
      exact ⟨retE_yes ⟨hN.out, hlt.out⟩, rfl⟩
    · have hd : decide (a.data.toList < s.data.toList) = false := by simp [hlt]
      rw [hd] at hle
      replace hlt := hid hlt
      clear hd
      go_wp2_with fail
      go_ret
      exact ⟨retE_no 6 (by omega) (fun h => hlt.out h.2), rfl⟩
end Go.Proofs.YtihkljfcplfldaaGreat

namespace Go.Proofs.YtihkljfcplfldaaGreat
open Go.RowKit

/-- a name's place in a list that is in order -/
structure Found {α : Type} (f : α → List UInt8) (l : List α) (t : List UInt8) (p : Nat) (b : Bool) : Prop where
  le : p ≤ l.length
  ahead : ∀ x ∈ l.take p, f x < t
  behind : ∀ x ∈ l.drop p, ¬ f x < t
  there : b = true ↔ ∃ x, l[p]? = some x ∧ f x = t
theorem found_left {α : Type} {f : α → List UInt8} {l : List α} {t : List UInt8} (ho : l.Pairwise fun a b => f a < f b) {h : Nat} {x : α} (hx : l[h]? = some x) (hlt : f x < t) : ∀ y ∈ l.take (h + 1), f y < t := by
  intro y hy
  obtain ⟨k, hk, rfl⟩ := List.mem_iff_getElem.1 hy
  rw [List.length_take] at hk
  rw [List.getElem_take]
  obtain ⟨hh, rfl⟩ := List.getElem?_eq_some_iff.1 hx
  by_cases e : k = h
  · subst e; exact hlt
  · exact List.lt_trans (List.pairwise_iff_getElem.1 ho k h (by omega) hh (by omega)) hlt
theorem found_right {α : Type} {f : α → List UInt8} {l : List α} {t : List UInt8} (ho : l.Pairwise fun a b => f a < f b) {h : Nat} {x : α} (hx : l[h]? = some x) (hge : ¬ f x < t) : ∀ y ∈ l.drop h, ¬ f y < t := by
  intro y hy
  obtain ⟨k, hk, rfl⟩ := List.mem_iff_getElem.1 hy
  rw [List.length_drop] at hk
  rw [List.getElem_drop]
  obtain ⟨hh, rfl⟩ := List.getElem?_eq_some_iff.1 hx
  by_cases e : k = 0
  · subst e; exact hge
  · exact fun hl => hge (List.lt_trans (List.pairwise_iff_getElem.1 ho h (h + k) hh (by omega) (by omega)) hl)
/-- it answers the place, and whether it is there -/
def RetF {α : Type} (f : α → List UInt8) (l : List α) (t : List UInt8) (e : Ending) : Prop := ∃ (p : Nat) (b : Bool), e = .returned (.tuple #[.int .i64 p, .bool b]) ∧ Found f l t p b

theorem cmpE_any (x : Ent) (t : ByteArray) (w : World) :
    Calls Tryz.prog 144 #[.agg #[.string x.name, .int .i64 x.root, .int .i64 x.size], .string t] w fun e w' => e = .returned (.int .i64 (Lib.compareBytes x.nm t.data.toList)) ∧ Below w.heap.size w w' := by
  have b0 := below_alloc w (.cells (Value.cells (.agg #[.string x.name, .int .i64 x.root, .int .i64 x.size])) 85)
  go_enter Tryz.func144, Tryz.ntmps144
  go_wp2_with fail
  refine (compare_any x.name t _).mono ?_
  rintro e w1 ⟨rfl, rfl⟩
  go_wp2_with fail
  go_ret
  exact ⟨rfl, b0⟩

set_option maxHeartbeats 2000000 in
set_option maxRecDepth 100000 in
theorem searchE_any (Q : Nat → Prop) (a : Option Addr) (n c : Nat) (l : List Ent) (t : ByteArray) (w : World) (hn : n ≤ 1000) (h : EntsAt Q w a n l) (ho : l.Pairwise fun a b => a.nm < b.nm) :
    Calls Tryz.prog 143 #[.slice a n c, .string t, .func (.func 144) #[] #[]] w fun e w' => RetF Ent.nm l t.data.toList e ∧ Below w.heap.size w w' := by
  have hl := hid h.1
  replace h := hid h
  replace ho := hid ho
  go_enter Tryz.func143, Tryz.ntmps143
  go_wp2_with fail
  go_loopw [9, 10] (fun u v wr => ∃ i j : Nat, i ≤ j ∧ j ≤ n ∧ u = .int .i64 i ∧ v = .int .i64 j ∧ Below w.heap.size w wr ∧ (∀ x ∈ l.take i, x.nm < t.data.toList) ∧ ∀ x ∈ l.drop j, ¬ x.nm < t.data.toList) (fun u v _ => (Go.RowKit.intOf v).toNat - (Go.RowKit.intOf u).toNat)
  case atStart => exact ⟨0, n, Nat.zero_le _, Nat.le_refl _, rfl, rfl, Below.refl _ _, by simp, by rw [List.drop_of_length_le (by rw [hl.out]; exact Nat.le_refl _)]; simp⟩
  case round =>
    obtain ⟨i, j, hij, hjn, rfl, rfl, hbel, h1, h2⟩ := hrel
    replace h1 := hid h1
    replace h2 := hid h2
    by_cases hlt : i < j
    · obtain ⟨m, hm⟩ : ∃ m : Nat, m = (i + j) / 2 := ⟨_, rfl⟩
      have hm' : ((i : Int) + (j : Int)) / 2 = (m : Int) := by omega
      have hmi : i ≤ m ∧ m < j := by omega
      clear hm
      have hml : m < l.length := by rw [hl.out]; omega
      have h' := h.out.below hbel
      obtain ⟨b, off, rfl⟩ : ∃ b off, a = some ⟨b, off, none⟩ := by
        obtain ⟨b, off, e, _⟩ := h'.2.2 (by omega)
        exact ⟨b, off, e⟩
      have hx : l[m]? = some (l.getD m Ent.zero) := by rw [List.getElem?_eq_getElem hml]; simp [List.getD, hml]
      have hE := h'.ent (i := m) (by omega)
      have c2 := hE.c2
      have c0 := hE.c0
      have c1 := hE.c1
      replace hx := hid hx
      clear hE h'
      generalize l.getD m Ent.zero = x at *
      go_wp2_with fail
      refine (cmpE_any x t wr).mono ?_
      rintro e w1 ⟨rfl, b1⟩
      clear c0 c1 c2
      have hL := found_left ho.out (t := t.data.toList) hx.out
      have hR := found_right ho.out (t := t.data.toList) hx.out
      rw [← cb_lt] at hL hR
      generalize Lib.compareBytes x.nm t.data.toList = r at *
      replace hL := hid hL
      replace hR := hid hR
      replace hbel := Below.tr hbel b1
      by_cases hr : r < 0
      · have hr' : decide (r < 0) = true := by simp [hr]
        go_wp2_with fail
        go_roundw
        case rel => exact ⟨m + 1, j, by omega, hjn, by go_num, rfl, hbel, hL.out hr, h2.out⟩
        case measure => simp [Go.RowKit.intOf]; omega
      · have hr' : decide (r < 0) = false := by simp [hr]
        go_wp2_with fail
        go_roundw
        case rel => exact ⟨i, m, hmi.1, by omega, rfl, rfl, hbel, h1.out, hR.out hr⟩
        case measure => simp [Go.RowKit.intOf]; omega
    · obtain rfl : i = j := by omega
      by_cases hin : i < n
      · have hml : i < l.length := by rw [hl.out]; omega
        have h' := h.out.below hbel
        obtain ⟨b, off, rfl⟩ : ∃ b off, a = some ⟨b, off, none⟩ := by
          obtain ⟨b, off, e, _⟩ := h'.2.2 (by omega)
          exact ⟨b, off, e⟩
        have hx : l[i]? = some (l.getD i Ent.zero) := by rw [List.getElem?_eq_getElem hml]; simp [List.getD, hml]
        have hE := h'.ent (i := i) (by omega)
        have c2 := hE.c2
        have c0 := hE.c0
        have c1 := hE.c1
        replace hx := hid hx
        clear hE h'
        generalize l.getD i Ent.zero = x at *
        go_wp2_with fail
        refine (cmpE_any x t wr).mono ?_
        rintro e w1 ⟨rfl, b1⟩
        clear c0 c1 c2
        have hq := cb_eq x.nm t.data.toList
        generalize Lib.compareBytes x.nm t.data.toList = r at *
        have J : Hid (RetF Ent.nm l t.data.toList (.returned (.tuple #[.int .i64 i, .bool (r == 0)]))) := hid ⟨i, _, rfl, by rw [hl.out]; exact hjn, h1.out, h2.out, by
          rw [hx.out, beq_iff_eq, hq]
          constructor
          · intro h; exact ⟨x, rfl, h⟩
          · rintro ⟨y, e, h⟩; cases e; exact h⟩
        replace hbel := Below.tr hbel b1
        clear hq
        go_wp2_with fail
        go_ret2
        exact ⟨J.out, hbel⟩
      · have J : Hid (RetF Ent.nm l t.data.toList (.returned (.tuple #[.int .i64 i, .bool false]))) := hid ⟨i, _, rfl, by rw [hl.out]; exact hjn, h1.out, h2.out, by
          rw [List.getElem?_eq_none (by rw [hl.out]; omega)]
          simp⟩
        go_wp2_with fail
        go_ret2
        exact ⟨J.out, hbel⟩

theorem findE_any (Q : Nat → Prop) (a : Option Addr) (n c : Nat) (l : List Ent) (t : ByteArray) (w : World) (hn : n ≤ 1000) (h : EntsAt Q w a n l) (ho : l.Pairwise fun a b => a.nm < b.nm) :
    Calls Tryz.prog 120 #[.slice a n c, .string t] w fun e w' => RetF Ent.nm l t.data.toList e ∧ Below w.heap.size w w' := by
  go_enter Tryz.func120, Tryz.ntmps120
  go_wp2_with fail
  refine (searchE_any Q a n c l t w hn h ho).mono ?_
  rintro e w1 ⟨⟨p, b, rfl, hF⟩, b1⟩
  replace hF := hid hF
  go_wp2_with fail
  go_ret2
  exact ⟨⟨p, b, rfl, hF.out⟩, b1⟩


theorem cmpS_any (x : SnapE) (fa : Option Addr) (fn fc : Nat) (t : ByteArray) (w : World) :
    Calls Tryz.prog 125 #[.agg #[.string x.name, .slice fa fn fc], .string t] w fun e w' => e = .returned (.int .i64 (Lib.compareBytes x.nm t.data.toList)) ∧ Below w.heap.size w w' := by
  have b0 := below_alloc w (.cells (Value.cells (.agg #[.string x.name, .slice fa fn fc])) 88)
  go_enter Tryz.func125, Tryz.ntmps125
  go_wp2_with fail
  refine (compare_any x.name t _).mono ?_
  rintro e w1 ⟨rfl, rfl⟩
  go_wp2_with fail
  go_ret
  exact ⟨rfl, b0⟩

set_option maxHeartbeats 2000000 in
set_option maxRecDepth 100000 in
theorem searchS_any (Q : Nat → Prop) (a : Option Addr) (n c : Nat) (l : List SnapE) (t : ByteArray) (w : World) (hn : n ≤ 1000) (h : SnapsAt Q w a n l) (ho : l.Pairwise fun a b => a.nm < b.nm) :
    Calls Tryz.prog 124 #[.slice a n c, .string t, .func (.func 125) #[] #[]] w fun e w' => RetF SnapE.nm l t.data.toList e ∧ Below w.heap.size w w' := by
  have hl := hid h.1
  replace h := hid h
  replace ho := hid ho
  go_enter Tryz.func124, Tryz.ntmps124
  go_wp2_with fail
  go_loopw [9, 10] (fun u v wr => ∃ i j : Nat, i ≤ j ∧ j ≤ n ∧ u = .int .i64 i ∧ v = .int .i64 j ∧ Below w.heap.size w wr ∧ (∀ x ∈ l.take i, x.nm < t.data.toList) ∧ ∀ x ∈ l.drop j, ¬ x.nm < t.data.toList) (fun u v _ => (Go.RowKit.intOf v).toNat - (Go.RowKit.intOf u).toNat)
  case atStart => exact ⟨0, n, Nat.zero_le _, Nat.le_refl _, rfl, rfl, Below.refl _ _, by simp, by rw [List.drop_of_length_le (by rw [hl.out]; exact Nat.le_refl _)]; simp⟩
  case round =>
    obtain ⟨i, j, hij, hjn, rfl, rfl, hbel, h1, h2⟩ := hrel
    replace h1 := hid h1
    replace h2 := hid h2
    by_cases hlt : i < j
    · obtain ⟨m, hm⟩ : ∃ m : Nat, m = (i + j) / 2 := ⟨_, rfl⟩
      have hm' : ((i : Int) + (j : Int)) / 2 = (m : Int) := by omega
      have hmi : i ≤ m ∧ m < j := by omega
      clear hm
      have hml : m < l.length := by rw [hl.out]; omega
      have h' := h.out.below hbel
      obtain ⟨b, off, rfl⟩ : ∃ b off, a = some ⟨b, off, none⟩ := by
        obtain ⟨b, off, e, _⟩ := h'.2 (by omega)
        exact ⟨b, off, e⟩
      have hx : l[m]? = some (l.getD m SnapE.zero) := by rw [List.getElem?_eq_getElem hml]; simp [List.getD, hml]
      obtain ⟨fa, fn, fc, hE⟩ := h'.snap (i := m) (by omega)
      have c0 := hE.c0
      have c1 := hE.c1
      replace hx := hid hx
      clear hE h'
      generalize l.getD m SnapE.zero = x at *
      go_wp2_with fail
      refine (cmpS_any x fa fn fc t wr).mono ?_
      rintro e w1 ⟨rfl, b1⟩
      clear c0 c1
      have hL := found_left ho.out (t := t.data.toList) hx.out
      have hR := found_right ho.out (t := t.data.toList) hx.out
      rw [← cb_lt] at hL hR
      generalize Lib.compareBytes x.nm t.data.toList = r at *
      replace hL := hid hL
      replace hR := hid hR
      replace hbel := Below.tr hbel b1
      by_cases hr : r < 0
      · have hr' : decide (r < 0) = true := by simp [hr]
        go_wp2_with fail
        go_roundw
        case rel => exact ⟨m + 1, j, by omega, hjn, by go_num, rfl, hbel, hL.out hr, h2.out⟩
        case measure => simp [Go.RowKit.intOf]; omega
      · have hr' : decide (r < 0) = false := by simp [hr]
        go_wp2_with fail
        go_roundw
        case rel => exact ⟨i, m, hmi.1, by omega, rfl, rfl, hbel, h1.out, hR.out hr⟩
        case measure => simp [Go.RowKit.intOf]; omega
    · obtain rfl : i = j := by omega
      by_cases hin : i < n
      · have hml : i < l.length := by rw [hl.out]; omega
        have h' := h.out.below hbel
        obtain ⟨b, off, rfl⟩ : ∃ b off, a = some ⟨b, off, none⟩ := by
          obtain ⟨b, off, e, _⟩ := h'.2 (by omega)
          exact ⟨b, off, e⟩
        have hx : l[i]? = some (l.getD i SnapE.zero) := by rw [List.getElem?_eq_getElem hml]; simp [List.getD, hml]
        obtain ⟨fa, fn, fc, hE⟩ := h'.snap (i := i) (by omega)
        have c0 := hE.c0
        have c1 := hE.c1
        replace hx := hid hx
        clear hE h'
        generalize l.getD i SnapE.zero = x at *
        go_wp2_with fail
        refine (cmpS_any x fa fn fc t wr).mono ?_
        rintro e w1 ⟨rfl, b1⟩
        clear c0 c1
        have hq := cb_eq x.nm t.data.toList
        generalize Lib.compareBytes x.nm t.data.toList = r at *
        have J : Hid (RetF SnapE.nm l t.data.toList (.returned (.tuple #[.int .i64 i, .bool (r == 0)]))) := hid ⟨i, _, rfl, by rw [hl.out]; exact hjn, h1.out, h2.out, by
          rw [hx.out, beq_iff_eq, hq]
          constructor
          · intro h; exact ⟨x, rfl, h⟩
          · rintro ⟨y, e, h⟩; cases e; exact h⟩
        replace hbel := Below.tr hbel b1
        clear hq
        go_wp2_with fail
        go_ret2
        exact ⟨J.out, hbel⟩
      · have J : Hid (RetF SnapE.nm l t.data.toList (.returned (.tuple #[.int .i64 i, .bool false]))) := hid ⟨i, _, rfl, by rw [hl.out]; exact hjn, h1.out, h2.out, by
          rw [List.getElem?_eq_none (by rw [hl.out]; omega)]
          simp⟩
        go_wp2_with fail
        go_ret2
        exact ⟨J.out, hbel⟩

theorem findS_any (Q : Nat → Prop) (a : Option Addr) (n c : Nat) (l : List SnapE) (t : ByteArray) (w : World) (hn : n ≤ 1000) (h : SnapsAt Q w a n l) (ho : l.Pairwise fun a b => a.nm < b.nm) :
    Calls Tryz.prog 104 #[.slice a n c, .string t] w fun e w' => RetF SnapE.nm l t.data.toList e ∧ Below w.heap.size w w' := by
  go_enter Tryz.func104, Tryz.ntmps104
  go_wp2_with fail
  refine (searchS_any Q a n c l t w hn h ho).mono ?_
  rintro e w1 ⟨⟨p, b, rfl, hF⟩, b1⟩
  replace hF := hid hF
  go_wp2_with fail
  go_ret2
  exact ⟨⟨p, b, rfl, hF.out⟩, b1⟩

end Go.Proofs.YtihkljfcplfldaaGreat

namespace Go.Proofs.YtihkljfcplfldaaGreat
open Go.RowKit

theorem isSize_ok (n : Int) (w : World) (h : 0 ≤ n ∧ n ≤ 256) :
    Calls Tryz.prog 145 #[.int .i64 n] w fun e w' => e = .returned (.bool true) ∧ w' = w := by
  obtain ⟨h0, h1⟩ := h
  go_enter Tryz.func145, Tryz.ntmps145
  go_wp2
  go_ret
  exact ⟨rfl, rfl⟩
theorem isSize_no (n : Int) (w : World) (h : ¬ (0 ≤ n ∧ n ≤ 256)) :
    Calls Tryz.prog 145 #[.int .i64 n] w fun e w' => e = .returned (.bool false) ∧ w' = w := by
  by_cases h0 : n < 0
  · clear h
    go_enter Tryz.func145, Tryz.ntmps145
    go_wp2
    go_ret
    exact ⟨rfl, rfl⟩
  · have h1 : ¬ n ≤ 256 := by omega
    clear h
    go_enter Tryz.func145, Tryz.ntmps145
    go_wp2
    go_ret
    exact ⟨rfl, rfl⟩

theorem notZero_any (x : Int) (w : World) :
    Calls Tryz.prog 179 #[.int .u8 x] w fun e w' => e = .returned (.bool (!(x == 0))) ∧ w' = w := by
  go_enter Tryz.func179, Tryz.ntmps179
  go_wp2
  go_ret
  exact ⟨rfl, rfl⟩

/-- where the first is that isn't nought -/
def RetNz (e : Ending) (n : Nat) (l : List Int) : Prop := (e = .returned (.int .i64 (-1)) ∧ ∀ i, i < n → l.getD i 0 = 0) ∨ (∃ i : Nat, e = .returned (.int .i64 i) ∧ i < n ∧ l.getD i 0 ≠ 0)

theorem indexNot_any (a : Option Addr) (n c : Nat) (l : List Int) (Q : Nat → Prop) (w : World) (hn : n ≤ 1000) (h : NumsAt Q .u8 w a n l) :
    Calls Tryz.prog 202 #[.slice a n c, .func (.func 179) #[] #[]] w fun e w' => RetNz e n l ∧ w' = w := by
  replace h := hid h
  go_enter Tryz.func202, Tryz.ntmps202
  go_wp2_with fail
  go_loopw [8] (fun v wr => ∃ i : Nat, i ≤ n ∧ v = .int .i64 i ∧ wr = w ∧ ∀ j, j < i → l.getD j 0 = 0) (fun v _ => n - (Go.RowKit.intOf v).toNat)
  case atStart => exact ⟨0, Nat.zero_le _, rfl, rfl, fun j hj => absurd hj (by omega)⟩
  case round =>
    obtain ⟨i, him, rfl, rfl, hz⟩ := hrel
    replace hz := hid hz
    by_cases hlt : i < n
    · obtain ⟨b, off, rfl, hb, _, hc⟩ := h.out.2.2 (by omega)
      have hci := hc i hlt
      clear hc
      generalize hx : l.getD i 0 = x at *
      replace hx := hid hx
      go_wp2_with fail
      refine (notZero_any x wr).mono ?_
      rintro e w1 ⟨rfl, rfl⟩
      by_cases h0 : x = 0
      · have h0' : (x == 0) = true := by simp [h0]
        go_wp2_with fail
        go_roundw
        case rel => exact ⟨i + 1, by omega, by go_num, by simp, fun j hj => by
          by_cases e : j = i
          · rw [e, hx.out, h0]
          · exact hz.out j (by omega)⟩
        case measure => simp [Go.RowKit.intOf]; omega
      · have h0' : (x == 0) = false := by simp [h0]
        go_wp2_with fail
        go_ret
        exact ⟨.inr ⟨i, rfl, hlt, by rw [hx.out]; exact h0⟩, rfl⟩
    · obtain rfl : i = n := by omega
      go_wp2_with fail
      go_ret
      exact ⟨.inl ⟨rfl, hz.out⟩, rfl⟩

theorem getD_all {l : List Int} {n : Nat} (h : l.length = n) : (∀ i, i < n → l.getD i 0 = 0) ↔ ∀ x ∈ l, x = 0 := by
  subst h
  constructor
  · intro h x hx
    obtain ⟨i, hi, rfl⟩ := List.mem_iff_getElem.1 hx
    have := h i hi
    simpa [List.getD, hi] using this
  · intro h i hi
    have e : l.getD i 0 = l[i] := by simp [List.getD, hi]
    rw [e]; exact h _ (List.getElem_mem hi)

/-- what isNoughts answers -/
def RetN (e : Ending) (l : List Int) : Prop := (e = .returned (.bool true) ∧ ∀ x ∈ l, x = 0) ∨ (e = .returned (.bool false) ∧ ¬ ∀ x ∈ l, x = 0)

theorem isNoughts_any (a : Option Addr) (n c : Nat) (l : List Int) (Q : Nat → Prop) (w : World) (hn : n ≤ 1000) (h : NumsAt Q .u8 w a n l) :
    Calls Tryz.prog 156 #[.slice a n c] w fun e w' => RetN e l ∧ w' = w := by
  have hl := h.1
  have hcf : Calls Tryz.prog 178 #[.slice a n c, .func (.func 179) #[] #[]] w fun e w' => ((e = .returned (.bool false) ∧ ∀ x ∈ l, x = 0) ∨ (e = .returned (.bool true) ∧ ¬ ∀ x ∈ l, x = 0)) ∧ w' = w := by
    go_enter Tryz.func178, Tryz.ntmps178
    go_wp2_with fail
    refine (indexNot_any a n c l Q w hn h).mono ?_
    rintro e w1 ⟨⟨rfl, hz⟩ | ⟨i, rfl, hi, hx⟩, rfl⟩
    · rw [getD_all hl] at hz
      replace hz := hid hz
      go_wp2_with fail
      go_ret
      exact ⟨.inl ⟨rfl, hz.out⟩, rfl⟩
    · have hno : Hid (¬ ∀ x ∈ l, x = 0) := hid fun f => hx ((getD_all hl).2 f i hi)
      clear hx
      go_wp2_with fail
      go_ret
      exact ⟨.inr ⟨rfl, hno.out⟩, rfl⟩
  replace hcf := hid hcf
  clear h
  go_enter Tryz.func156, Tryz.ntmps156
  go_wp2_with fail
  refine hcf.out.mono ?_
  rintro e w1 ⟨⟨rfl, hz⟩ | ⟨rfl, hz⟩, rfl⟩
  · replace hz := hid hz
    go_wp2_with fail
    go_ret
    exact ⟨.inl ⟨rfl, hz.out⟩, rfl⟩
  · replace hz := hid hz
    go_wp2_with fail
    go_ret
    exact ⟨.inr ⟨rfl, hz.out⟩, rfl⟩

theorem NumsAt.bytesAt {Q : Nat → Prop} {w : World} {a : Option Addr} {n : Nat} {l : List Int} (h : NumsAt Q .u8 w a n l) : BytesAt w a n l := by
  refine ⟨h.1, fun x hx => by have := bounds_u8 (h.2.1 x hx); omega, fun hn => ?_⟩
  obtain ⟨b, off, h1, h2, _, h3⟩ := h.2.2 hn
  exact ⟨b, off, h1, h2, h3⟩
theorem wf_u8 {x : Int} (h : 0 ≤ x ∧ x < 256) : (Lit.int .u8 x).wf = true := by
  have h0 := h.1
  have h1 := h.2
  have e1 : IntKind.u8.min = 0 := rfl
  have e2 : IntKind.u8.max = 255 := rfl
  simp [Lit.wf]
  omega
theorem BytesAt.nums {w : World} {a : Option Addr} {n : Nat} {l : List Int} (h : BytesAt w a n l) : NumsAt (fun _ => True) .u8 w a n l := by
  refine ⟨h.1, fun x hx => wf_u8 (h.2.1 x hx), fun hn => ?_⟩
  obtain ⟨b, off, h1, h2, h3⟩ := h.2.2 hn
  exact ⟨b, off, h1, h2, trivial, h3⟩
theorem NumsAt.bytes {Q : Nat → Prop} {w : World} {a : Option Addr} {n : Nat} {l : List Int} (h : NumsAt Q .u8 w a n l) : Bytes l := h.bytesAt.2.1
/-- a piece of a row -/
theorem NumsAt.piece {Q : Nat → Prop} {k : IntKind} {w : World} {b off n : Nat} {l : List Int} (h : NumsAt Q k w (some ⟨b, off, none⟩) n l) {lo m : Nat} (hm : lo + m ≤ n) : NumsAt Q k w (some ⟨b, off + lo, none⟩) m ((l.drop lo).take m) := by
  have hl := h.1
  refine ⟨by simp [hl]; omega, fun x hx => h.2.1 x (List.mem_of_mem_drop (List.mem_of_mem_take hx)), fun hp => ?_⟩
  obtain ⟨b', off', he, hb, hq, hc⟩ := h.2.2 (by omega)
  cases he
  refine ⟨b, off + lo, rfl, hb, hq, fun i hi => ?_⟩
  rw [show off + lo + i = off + (lo + i) by omega, hc (lo + i) (by omega)]
  simp [List.getD, hi]
/-- the row that the cells of a block are -/
theorem cells_of_own {w : World} {B g n : Nat} {e : TypeId} {xs : List Value} (h : w.ownsRow B e 1 (.slice (some ⟨g, 0, none⟩) n n) n xs) : CellsAt w g xs.toArray e := by
  rcases h.2 with ⟨h0, _⟩ | ⟨g', cap', cur, hv, _, hh, _, _, hfit, ht⟩
  · cases h0
  · cases hv
    unfold CellsAt
    rw [hh, ← ht, List.take_of_length_le (by simp [hfit])]
end Go.Proofs.YtihkljfcplfldaaGreat
