/-
  Contracts of file.isSize, file.isNoughts. Nothing here is trusted.
-/
import Derived.Test.YtaagnojdpediladFileB
set_option linter.unusedVariables false
namespace Go.Proofs.Ytaagnojdpedilad
open Go.RowKit

theorem isSize_ok (n : Int) (w : World) (h : 0 ≤ n ∧ n ≤ 256) :
    Calls Try.prog 12 #[.int .i64 n] w fun e w' => e = .returned (.bool true) ∧ w' = w := by
  obtain ⟨h0, h1⟩ := h
  go_enter Try.func12, Try.ntmps12
  go_wp2
  go_ret
  exact ⟨rfl, rfl⟩
theorem isSize_no (n : Int) (w : World) (h : ¬ (0 ≤ n ∧ n ≤ 256)) :
    Calls Try.prog 12 #[.int .i64 n] w fun e w' => e = .returned (.bool false) ∧ w' = w := by
  by_cases h0 : n < 0
  · clear h
    go_enter Try.func12, Try.ntmps12
    go_wp2
    go_ret
    exact ⟨rfl, rfl⟩
  · have h1 : ¬ n ≤ 256 := by omega
    clear h
    go_enter Try.func12, Try.ntmps12
    go_wp2
    go_ret
    exact ⟨rfl, rfl⟩

theorem notZero_any (x : Int) (w : World) :
    Calls Try.prog 41 #[.int .u8 x] w fun e w' => e = .returned (.bool (!(x == 0))) ∧ w' = w := by
  go_enter Try.func41, Try.ntmps41
  go_wp2
  go_ret
  exact ⟨rfl, rfl⟩

/-- where the first is that isn't nought -/
def RetNz (e : Ending) (n : Nat) (l : List Int) : Prop := (e = .returned (.int .i64 (-1)) ∧ ∀ i, i < n → l.getD i 0 = 0) ∨ (∃ i : Nat, e = .returned (.int .i64 i) ∧ i < n ∧ l.getD i 0 ≠ 0)

theorem indexNot_any (a : Option Addr) (n c : Nat) (l : List Int) (Q : Nat → Prop) (w : World) (hn : n ≤ 1000) (h : NumsAt Q .u8 w a n l) :
    Calls Try.prog 50 #[.slice a n c, .func (.func 41) #[] #[]] w fun e w' => RetNz e n l ∧ w' = w := by
  replace h := hid h
  go_enter Try.func50, Try.ntmps50
  go_wp2_with fail
  go_loopw [8] (fun v wr => ∃ i : Nat, i ≤ n ∧ v = .int .i64 i ∧ wr = w ∧ ∀ j, j < i → l.getD j 0 = 0) (fun v _ => n - (Go.RowKit.intOf v).toNat)
  case atStart => exact ⟨0, Nat.zero_le _, rfl, rfl, fun j hj => absurd hj (by omega)⟩
  case round =>
    obtain ⟨i, him, rfl, rfl, hz⟩ := hrel
    replace hz := hid hz
    by_cases hlt : i < n
    · obtain ⟨b, off, rfl, hb, _, hc⟩ := h.out.2.2 (by omega)
      have hci := hc i hlt
      clear hc
      generalize hx : l.getD i 0 = x at *
      replace hx := hid hx
      go_wp2_with fail
      refine (notZero_any x wr).mono ?_
      rintro e w1 ⟨rfl, rfl⟩
      by_cases h0 : x = 0
      · have h0' : (x == 0) = true := by simp [h0]
        go_wp2_with fail
        go_roundw
        case rel => exact ⟨i + 1, by omega, by go_num, by simp, fun j hj => by
          by_cases e : j = i
          · rw [e, hx.out, h0]
          · exact hz.out j (by omega)⟩
        case measure => simp [Go.RowKit.intOf]; omega
      · have h0' : (x == 0) = false := by simp [h0]
        go_wp2_with fail
        go_ret
        exact ⟨.inr ⟨i, rfl, hlt, by rw [hx.out]; exact h0⟩, rfl⟩
    · obtain rfl : i = n := by omega
      go_wp2_with fail
      go_ret
      exact ⟨.inl ⟨rfl, hz.out⟩, rfl⟩

theorem getD_all {l : List Int} {n : Nat} (h : l.length = n) : (∀ i, i < n → l.getD i 0 = 0) ↔ ∀ x ∈ l, x = 0 := by
  subst h
  constructor
  · intro h x hx
    obtain ⟨i, hi, rfl⟩ := List.mem_iff_getElem.1 hx
    have := h i hi
    simpa [List.getD, hi] using this
  · intro h i hi
    have e : l.getD i 0 = l[i] := by simp [List.getD, hi]
    rw [e]; exact h _ (List.getElem_mem hi)

/-- what isNoughts answers -/
def RetN (e : Ending) (l : List Int) : Prop := (e = .returned (.bool true) ∧ ∀ x ∈ l, x = 0) ∨ (e = .returned (.bool false) ∧ ¬ ∀ x ∈ l, x = 0)

theorem isNoughts_any (a : Option Addr) (n c : Nat) (l : List Int) (Q : Nat → Prop) (w : World) (hn : n ≤ 1000) (h : NumsAt Q .u8 w a n l) :
    Calls Try.prog 27 #[.slice a n c] w fun e w' => RetN e l ∧ w' = w := by
  have hl := h.1
  have hcf : Calls Try.prog 40 #[.slice a n c, .func (.func 41) #[] #[]] w fun e w' => ((e = .returned (.bool false) ∧ ∀ x ∈ l, x = 0) ∨ (e = .returned (.bool true) ∧ ¬ ∀ x ∈ l, x = 0)) ∧ w' = w := by
    go_enter Try.func40, Try.ntmps40
    go_wp2_with fail
    refine (indexNot_any a n c l Q w hn h).mono ?_
    rintro e w1 ⟨⟨rfl, hz⟩ | ⟨i, rfl, hi, hx⟩, rfl⟩
    · rw [getD_all hl] at hz
      replace hz := hid hz
      go_wp2_with fail
      go_ret
      exact ⟨.inl ⟨rfl, hz.out⟩, rfl⟩
    · have hno : Hid (¬ ∀ x ∈ l, x = 0) := hid fun f => hx ((getD_all hl).2 f i hi)
      clear hx
      go_wp2_with fail
      go_ret
      exact ⟨.inr ⟨rfl, hno.out⟩, rfl⟩
  replace hcf := hid hcf
  clear h
  go_enter Try.func27, Try.ntmps27
  go_wp2_with fail
  refine hcf.out.mono ?_
  rintro e w1 ⟨⟨rfl, hz⟩ | ⟨rfl, hz⟩, rfl⟩
  · replace hz := hid hz
    go_wp2_with fail
    go_ret
    exact ⟨.inl ⟨rfl, hz.out⟩, rfl⟩
  · replace hz := hid hz
    go_wp2_with fail
    go_ret
    exact ⟨.inr ⟨rfl, hz.out⟩, rfl⟩

theorem NumsAt.bytesAt {Q : Nat → Prop} {w : World} {a : Option Addr} {n : Nat} {l : List Int} (h : NumsAt Q .u8 w a n l) : BytesAt w a n l := by
  refine ⟨h.1, fun x hx => by have := bounds_u8 (h.2.1 x hx); omega, fun hn => ?_⟩
  obtain ⟨b, off, h1, h2, _, h3⟩ := h.2.2 hn
  exact ⟨b, off, h1, h2, h3⟩
theorem wf_u8 {x : Int} (h : 0 ≤ x ∧ x < 256) : (Lit.int .u8 x).wf = true := by
  have h0 := h.1
  have h1 := h.2
  have e1 : IntKind.u8.min = 0 := rfl
  have e2 : IntKind.u8.max = 255 := rfl
  simp [Lit.wf]
  omega
theorem BytesAt.nums {w : World} {a : Option Addr} {n : Nat} {l : List Int} (h : BytesAt w a n l) : NumsAt (fun _ => True) .u8 w a n l := by
  refine ⟨h.1, fun x hx => wf_u8 (h.2.1 x hx), fun hn => ?_⟩
  obtain ⟨b, off, h1, h2, h3⟩ := h.2.2 hn
  exact ⟨b, off, h1, h2, trivial, h3⟩
theorem NumsAt.bytes {Q : Nat → Prop} {w : World} {a : Option Addr} {n : Nat} {l : List Int} (h : NumsAt Q .u8 w a n l) : Bytes l := h.bytesAt.2.1
/-- a piece of a row -/
theorem NumsAt.piece {Q : Nat → Prop} {k : IntKind} {w : World} {b off n : Nat} {l : List Int} (h : NumsAt Q k w (some ⟨b, off, none⟩) n l) {lo m : Nat} (hm : lo + m ≤ n) : NumsAt Q k w (some ⟨b, off + lo, none⟩) m ((l.drop lo).take m) := by
  have hl := h.1
  refine ⟨by simp [hl]; omega, fun x hx => h.2.1 x (List.mem_of_mem_drop (List.mem_of_mem_take hx)), fun hp => ?_⟩
  obtain ⟨b', off', he, hb, hq, hc⟩ := h.2.2 (by omega)
  cases he
  refine ⟨b, off + lo, rfl, hb, hq, fun i hi => ?_⟩
  rw [show off + lo + i = off + (lo + i) by omega, hc (lo + i) (by omega)]
  simp [List.getD, hi]
/-- the row that the cells of a block are -/
theorem cells_of_own {w : World} {B g n : Nat} {e : TypeId} {xs : List Value} (h : w.ownsRow B e 1 (.slice (some ⟨g, 0, none⟩) n n) n xs) : CellsAt w g xs.toArray e := by
  rcases h.2 with ⟨h0, _⟩ | ⟨g', cap', cur, hv, _, hh, _, _, hfit, ht⟩
  · cases h0
  · cases hv
    unfold CellsAt
    rw [hh, ← ht, List.take_of_length_le (by simp [hfit])]
end Go.Proofs.Ytaagnojdpedilad
