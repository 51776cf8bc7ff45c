/-
  Contracts of store.Keep, store.Same, of the law's crowded, of bytes.Equal. Nothing here is trusted.
-/
import Derived.Test.YtaagnojdpediladStored
import Derived.Laws.BytesArg
set_option linter.unusedVariables false
namespace Go.Proofs.Ytaagnojdpedilad
open Go.RowKit

/-- what Keep refuses not -/
def Keepable (n : Nat) (B : Nat → Blk) (a : Int) : Prop := Right n B ∧ There n B a
/-- the store with the block at a held once more -/
def keptB (B : Nat → Blk) (a : Int) : Nat → Blk := upd B (a - 1).toNat { B (a - 1).toNat with refs := (B (a - 1).toNat).refs + 1 }
/-- what Keep of one's own store answers -/
def Keeped (e : Ending) (w : World) (p : Addr) (g n : Nat) (B : Nat → Blk) (a : Int) (w' : World) : Prop :=
  (∃ e' : Int, e = .returned (.int .i64 e') ∧ e' ≠ 0 ∧ ¬ Keepable n B a) ∨ (e = .returned (.int .i64 0) ∧ Keepable n B a ∧ ∃ C, OwnPtr w' p g n C ∧ C = keptB B a)
/-- what store.Keep answers -/
def RetKeep (base : Nat) (e : Ending) (w : World) (n : Nat) (B : Nat → Blk) (a : Int) : Prop :=
  (∃ e', e = .returned (.tuple #[.agg #[.slice none 0 0], .int .i64 e']) ∧ e' ≠ 0 ∧ ¬ Keepable n B a) ∨ (Keepable n B a ∧ ∃ C, RetS base e w n C ∧ C = keptB B a)

set_option maxHeartbeats 1000000 in
set_option maxRecDepth 100000 in
theorem keep_any (p : Addr) (g n : Nat) (B : Nat → Blk) (a : Int) (w : World) (h : OwnPtr w p g n B) :
    Calls Try.prog 30 #[.pointer (some p), .int .i64 a] w fun e w' => Keeped e w p g n B a w' ∧ Out g w w' := by
  go_enter Try.func30, Try.ntmps30
  go_wp2_with fail
  refine (checkThere_any p _ n n B a w h.ptr).mono ?_
  rintro e w1 ⟨⟨e', rfl, he⟩, b1⟩
  replace h := h.below b1
  replace he := hid he
  by_cases h0 : e' = 0
  · have h0' : (e' == 0) = true := by simp [h0]
    obtain ⟨hR, ht⟩ := he.out.1 h0
    obtain ⟨i, rfl⟩ : ∃ i : Nat, a = (i : Int) + 1 := ⟨(a - 1).toNat, by have := ht.1; omega⟩
    have ei : ((i : Int) + 1 - 1).toNat = i := by omega
    have hi : i < n := by have := ht.2.1; omega
    have hn := hR.small
    have hbd := (hR.one i hi).bounds
    obtain ⟨ka, kn, kc, ba, bn, bc, hbk⟩ := h.own.cell hi
    have c0 := hbk.c0
    have f0 := h.own.free (i * 4) (by omega)
    have s1 := h.cell
    have J : Hid (∀ w', w' = w1.setCell ⟨g, i * 4, none⟩ (.int .i64 ((B i).refs + 1)) → OwnPtr w' p g n (keptB B ((i : Int) + 1)) ∧ Out g w w') := hid (by
      intro w' hw
      subst hw
      have kk := Kept.setCell (g := g) (Kept.refl _ w1) (p := ⟨g, i * 4, none⟩) rfl (.int .i64 ((B i).refs + 1))
      refine ⟨h.kept kk ?_, (Out.of_below b1).trans (Out.of_kept kk)⟩
      unfold keptB
      rw [ei]
      exact h.own.refs hi _ (by omega))
    replace hR := hid hR
    replace ht := hid ht
    clear hbk h
    generalize (B i).refs = rf at *
    go_wp2_with fail
    refine (at_own p g n n i _ hn s1 hi).mono ?_
    rintro e w2 ⟨rfl, rfl⟩
    go_wp2_with fail
    go_ret
    exact ⟨.inr ⟨rfl, ⟨hR.out, ht.out⟩, _, (J.out _ rfl).1, rfl⟩, (J.out _ rfl).2⟩
  · have h0' : (e' == 0) = false := by simp [h0]
    replace h := hid h
    go_wp2_with fail
    go_ret
    exact ⟨.inl ⟨e', rfl, h0, fun f => h0 (he.out.2 f)⟩, Out.of_below b1⟩

set_option maxHeartbeats 1000000 in
set_option maxRecDepth 100000 in
theorem equalBytes_same (a1 a2 : Option Addr) (n c d : Nat) (Q1 Q2 : Nat → Prop) (xs : List Int) (w : World) (hn : n ≤ 1000) (h1 : NumsAt Q1 .u8 w a1 n xs) (h2 : NumsAt Q2 .u8 w a2 n xs) :
    Calls Try.prog 19 #[.slice a1 n c, .slice a2 n d] w fun e w' => e = .returned (.bool true) ∧ ∃ q, w' = w.drewN q := by
  replace h1 := hid h1
  replace h2 := hid h2
  go_enter Try.func19, Try.ntmps19
  go_wp2
  go_loopw [13] (fun i wr => ∃ k q : Nat, k ≤ n ∧ i = .int .i64 k ∧ wr = w.drewN q) (fun i _ => n - (Go.RowKit.intOf i).toNat)
  case atStart => exact ⟨0, 0, Nat.zero_le _, rfl, rfl⟩
  case round =>
    obtain ⟨k, q, hk, rfl, rfl⟩ := hrel
    by_cases hlt : k < n
    · obtain ⟨b1, o1, rfl, _, _, hc1⟩ := h1.out.2.2 (by omega)
      obtain ⟨b2, o2, rfl, _, _, hc2⟩ := h2.out.2.2 (by omega)
      have g1 := hc1 k (by omega)
      have g2 := hc2 k (by omega)
      clear hc1 hc2 h1 h2
      generalize xs.getD k 0 = x at *
      go_wp2_with fail
      go_quiet (fail)
      go_wp2
      go_roundw
      case rel => exact ⟨k + 1, q + nq, by omega, by go_num, rfl⟩
      case measure => simp [Go.RowKit.intOf]; omega
    · have : k = n := by omega
      subst this
      clear h1 h2
      go_wp2
      go_ret
      exact ⟨rfl, q, rfl⟩

theorem run_string_of {Q : Nat → Prop} (w : World) {a : Option Addr} {n : Nat} {l : List Int} (c : Nat) (h : NumsAt Q .u8 w a n l) :
    (convert 28 9 (.slice a n c)).run Try.prog w = .ok (.string (strOfNums l)) w := by
  rcases Nat.eq_zero_or_pos n with hn | hn
  · subst hn
    obtain rfl : l = [] := List.eq_nil_of_length_eq_zero h.1
    rw [run_convert_bytes_string w 28 9 5 _ 0 c Try.underlying28 Try.underlying5 Try.underlying9]
    cases a <;> simp [Conv.bytesToString, loadCells]
    all_goals rfl
  · obtain ⟨b, off, rfl, _, _, hc⟩ := h.2.2 hn
    exact run_convert_bytes_arg w 28 5 Try.underlying28 Try.underlying5 b off n c l h.1 hc 9 Try.underlying9

theorem bytesEqual_same (a1 a2 : Option Addr) (n c m d : Nat) (Q1 Q2 : Nat → Prop) (l : List Int) (w : World) (h1 : NumsAt Q1 .u8 w a1 n l) (h2 : NumsAt Q2 .u8 w a2 m l) :
    Calls Try.prog 31 #[.slice a1 n c, .slice a2 m d] w fun e w' => e = .returned (.bool true) ∧ w' = w := by
  have g1 := run_string_of w c h1
  have g2 := run_string_of w d h2
  clear h1 h2
  go_enter Try.func31, Try.ntmps31
  go_wp2
  go_ret
  exact ⟨by simp, rfl⟩

theorem isCrowd_any (r lv : Int) (ka : Option Addr) (kn kc : Nat) (ba : Option Addr) (bn bc : Nat) (w : World) :
    Calls Try.prog 10 #[.agg #[.int .i64 r, .int .i64 lv, .slice ka kn kc, .slice ba bn bc]] w fun e w' => e = .returned (.bool (decide (999000 < r))) ∧ Below w.heap.size w w' := by
  go_enter Try.func10, Try.ntmps10
  go_wp2_with fail
  go_ret
  exact ⟨rfl, below_alloc _ _⟩

/-- it answers a place, or -1, and then none is crowded -/
def RetCr (e : Ending) (n : Nat) (B : Nat → Blk) : Prop := (e = .returned (.int .i64 (-1)) ∧ ∀ k, k < n → (B k).refs ≤ 999000) ∨ (∃ i : Nat, e = .returned (.int .i64 i))

set_option maxHeartbeats 1000000 in
set_option maxRecDepth 100000 in
theorem indexCrowd_any (a : Option Addr) (n c : Nat) (B : Nat → Blk) (w : World) (hn : n ≤ 9223372036854775807) (h : StoreAt w a n B) :
    Calls Try.prog 23 #[.slice a n c, .func (.func 10) #[] #[]] w fun e w' => RetCr e n B ∧ Below w.heap.size w w' := by
  go_enter Try.func23, Try.ntmps23
  go_wp2_with fail
  go_loopw [8] (fun v wr => ∃ i : Nat, i ≤ n ∧ v = .int .i64 i ∧ (∀ k, k < i → (B k).refs ≤ 999000) ∧ Below w.heap.size w wr) (fun v _ => n - (Go.RowKit.intOf v).toNat)
  case atStart => exact ⟨0, Nat.zero_le _, rfl, fun k hk => absurd hk (by omega), Below.refl _ _⟩
  case round =>
    obtain ⟨i, hin, rfl, hno, hbel⟩ := hrel
    replace hno := hid hno
    by_cases hlt : i < n
    · obtain ⟨b, off, rfl, hb, hB⟩ := (h.below hbel) (by omega)
      obtain ⟨ka, kn, kc, ba, bn, bc, hblk⟩ := hB i hlt
      have c0 := hblk.c0
      have c1 := hblk.c1
      have c2 := hblk.c2
      have c3 := hblk.c3
      clear hB hblk
      generalize hrf : (B i).refs = rf at *
      replace hrf := hid hrf
      generalize (B i).level = lv at *
      go_wp2_with fail
      refine (isCrowd_any rf lv ka kn kc ba bn bc wr).mono ?_
      rintro e w1 ⟨rfl, b1⟩
      replace hbel := Below.tr hbel b1
      by_cases h0 : 999000 < rf
      · have h0' : decide (999000 < rf) = true := by simp [h0]
        go_wp2_with fail
        go_ret
        exact ⟨.inr ⟨i, rfl⟩, hbel⟩
      · have h0' : decide (999000 < rf) = false := by simp; omega
        go_wp2_with fail
        go_roundw
        case rel =>
          refine ⟨i + 1, by omega, by go_num, fun k hk => ?_, hbel⟩
          rcases Nat.lt_or_ge k i with h' | h'
          · exact hno.out k h'
          · obtain rfl : k = i := by omega
            rw [hrf.out]; omega
        case measure => simp [Go.RowKit.intOf]; omega
    · obtain rfl : i = n := by omega
      go_wp2_with fail
      go_ret
      exact ⟨.inl ⟨rfl, hno.out⟩, hbel⟩

/-- it answers a Bool; false: none is crowded -/
def RetCb (e : Ending) (n : Nat) (B : Nat → Blk) : Prop := ∃ t, e = .returned (.bool t) ∧ (t = false → ∀ k, k < n → (B k).refs ≤ 999000)

theorem containsCrowd_any (a : Option Addr) (n c : Nat) (B : Nat → Blk) (w : World) (hn : n ≤ 9223372036854775807) (h : StoreAt w a n B) :
    Calls Try.prog 9 #[.slice a n c, .func (.func 10) #[] #[]] w fun e w' => RetCb e n B ∧ Below w.heap.size w w' := by
  go_enter Try.func9, Try.ntmps9
  go_wp2_with fail
  refine (indexCrowd_any a n c B w hn h).mono ?_
  rintro e w1 ⟨⟨rfl, hno⟩ | ⟨i, rfl⟩, b1⟩
  · replace hno := hid hno
    go_wp2_with fail
    go_ret
    exact ⟨⟨_, rfl, fun _ => hno.out⟩, b1⟩
  · go_wp2_with fail
    go_ret
    exact ⟨⟨_, rfl, fun f => by simp at f; try omega⟩, b1⟩

theorem crowded_any (a : Option Addr) (n c : Nat) (B : Nat → Blk) (w : World) (hn : n ≤ 9223372036854775807) (h : StoreAt w a n B) :
    Calls Try.prog 4 #[.agg #[.slice a n c]] w fun e w' => RetCb e n B ∧ Below w.heap.size w w' := by
  have b0 := below_alloc w (.cells #[.slice a n c] 24)
  replace h := hid h
  go_enter Try.func4, Try.ntmps4
  go_wp2_with fail
  refine (containsCrowd_any a n c B _ hn (h.out.below b0)).mono ?_
  rintro e w1 ⟨⟨t, rfl, ht⟩, b1⟩
  replace ht := hid ht
  replace b1 := Below.tr b0 b1
  go_wp2_with fail
  go_ret
  exact ⟨⟨t, rfl, ht.out⟩, b1⟩

end Go.Proofs.Ytaagnojdpedilad
