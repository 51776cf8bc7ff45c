/-
  The walk of the law SealBack out of contracts. Nothing here is trusted.
-/
import Derived.Test.YtjiodpggbmldnaaClone
import Derived.Deep.QuietTactic
import Derived.BigQuiet
import Derived.WalkSmall
set_option linter.unusedVariables false
namespace Go.Proofs.Ytjiodpggbmldnaa
open Go.RowKit

theorem sealBack_range (key at' : Int) (a : Option Addr) (n c : Nat) (a2 : Option Addr) (m d : Nat) (want : Int) (w : World) (hk : keyB key at' = false) :
    Calls Try.prog 5 #[.int .i64 key, .int .i64 at', .slice a n c, .slice a2 m d, .int .u8 want] w fun e w' => e = .returned (.bool true) ∧ Below w.heap.size w w' := by
  go_enter Try.func5, Try.ntmps5
  go_wp2_with fail
  refine (seal_range key at' a n c _ hk).mono ?_
  rintro e w ⟨rfl, rfl⟩
  go_wp2_with fail
  refine (sealed_any _).mono ?_
  rintro e w1 ⟨rfl, b1⟩
  go_wp2_with fail
  refine (sealed_any _).mono ?_
  rintro e w2 ⟨rfl, b2⟩
  go_wp2
  go_ret
  exact ⟨rfl, Below.tr b1 b2⟩

theorem sealBack_many (key at' : Int) (a : Option Addr) (n c : Nat) (a2 : Option Addr) (m d : Nat) (want : Int) (w : World) (hk : keyB key at' = true) (hn : 256 < n) :
    Calls Try.prog 5 #[.int .i64 key, .int .i64 at', .slice a n c, .slice a2 m d, .int .u8 want] w fun e w' => e = .returned (.bool true) ∧ Below w.heap.size w w' := by
  go_enter Try.func5, Try.ntmps5
  go_wp2_with fail
  refine (seal_many key at' a n c _ hk hn).mono ?_
  rintro e w ⟨rfl, rfl⟩
  go_wp2_with fail
  refine (sealed_any _).mono ?_
  rintro e w1 ⟨rfl, b1⟩
  go_wp2_with fail
  refine (sealed_any _).mono ?_
  rintro e w2 ⟨rfl, b2⟩
  go_wp2
  go_ret
  exact ⟨rfl, Below.tr b1 b2⟩

theorem sealL_getD (key at' : Int) (l : List Int) (k : Nat) (hk : k < l.length) : (sealL key at' l).getD k 0 = add8 (l.getD k 0) (outb (xk (start key at') (k + 1))) := by
  unfold sealL; rw [mixed_getD _ _ _ _ _ hk]; rfl
theorem add8_beq (p q o : Int) (hp : 0 ≤ p ∧ p < 256) (hq : 0 ≤ q ∧ q < 256) : (add8 p o == add8 q o) = (p == q) := by
  rw [Bool.eq_iff_iff, beq_iff_eq, beq_iff_eq]; unfold add8; omega

theorem BytesAt.drewN {w : World} {a : Option Addr} {n : Nat} {l : List Int} (h : BytesAt w a n l) (q : Nat) : BytesAt (w.drewN q) a n l := by
  have hb : Below w.heap.size w (w.drewN q) := below_drewN (Below.refl _ _) q
  exact h.below hb

theorem bytesAt_ownCap {B : Nat} {w : World} {g n cap : Nat} {l : List Int} (hl : ∀ x ∈ l, 0 ≤ x ∧ x < 256) (h : w.ownsRow B 5 1 (.slice (some ⟨g, 0, none⟩) n cap) n (l.map (Value.int .u8))) : BytesAt w (some ⟨g, 0, none⟩) n l := by
  have hn : l.length = n := by have := h.1; simpa using this
  refine ⟨hn, hl, fun hp => ⟨g, 0, rfl, (h.lt g rfl).2, fun i hi => ?_⟩⟩
  rw [Nat.zero_add, h.cellAt i (by omega)]
  simp [hn, hi]

theorem getD_set_self (l : List Int) (n : Nat) (v : Int) (h : n < l.length) : (l.set n v).getD n 0 = v := by simp [List.getD, h]

theorem back_step (key at' : Int) (l : List Int) (n : Nat) (want : Int) (w : World) (hl : l.length = n + 1) (hlb : ∀ x ∈ l, 0 ≤ x ∧ x < 256) (hw : 0 ≤ want ∧ want < 256) (hp : 0 ≤ l.getD n 0 ∧ l.getD n 0 < 256)
    {B g cap : Nat} (h : w.ownsRow B 5 1 (.slice (some ⟨g, 0, none⟩) (n + 1) cap) (n + 1) (l.map (Value.int .u8))) :
    ∃ l' : List Int, BytesAt ((w.setCell ⟨g, n, none⟩ (.int .u8 ((l.getD n 0 + (want - add8 (l.getD n 0) (outb (xk (start key at') (n + 1))))) % 256))).drew) (some ⟨g, 0, none⟩) (n + 1) l' ∧ (sealL key at' l').getD n 0 = want ∧
      Below B w ((w.setCell ⟨g, n, none⟩ (.int .u8 ((l.getD n 0 + (want - add8 (l.getD n 0) (outb (xk (start key at') (n + 1))))) % 256))).drew) := by
  have hG : ∀ v, (sealL key at' (l.set n v)).getD n 0 = add8 v (outb (xk (start key at') (n + 1))) := by
    intro v
    rw [sealL_getD _ _ _ _ (by rw [List.length_set, hl]; omega), getD_set_self _ _ _ (by omega)]
  have hv : ((l.getD n 0 + (want - add8 (l.getD n 0) (outb (xk (start key at') (n + 1))))) % 256) = sub8 want (outb (xk (start key at') (n + 1))) := by unfold add8 sub8; omega
  rw [hv]
  generalize outb (xk (start key at') (n + 1)) = o at *
  clear hv
  refine ⟨l.set n (sub8 want o), ?_, ?_, ((Below.refl _ _).setCell ((h.lt g rfl).1) _).drew⟩
  · have := (h.stored n (.int .u8 (sub8 want o))).1
    have hb : ∀ x ∈ l.set n (sub8 want o), 0 ≤ x ∧ x < 256 := by
      intro x hx
      rcases List.mem_or_eq_of_mem_set hx with h1 | h1
      · exact hlb x h1
      · rw [h1]; exact sub8_bd _ _
    have hB := bytesAt_ownCap hb (by rw [List.map_set]; exact this)
    exact hB.below (Below.refl _ _).drew
  · rw [hG]
    exact add_sub8 _ _ hw

/-- Seal at a right key, whatever the length -/
theorem seal_either (key at' : Int) (a : Option Addr) (n c : Nat) (l : List Int) (w : World) (hk : keyB key at' = true) (h : BytesAt w a n l) :
    Calls Try.prog 8 #[.int .i64 key, .int .i64 at', .slice a n c] w fun e w' =>
      ∃ (av : Option Addr) (nv : Nat) (ev : Int), e = .returned (.tuple #[.slice av nv nv, .int .i64 ev]) ∧ Below w.heap.size w w' ∧ ((ev = 0 ∧ nv = n ∧ BytesAt w' av nv (sealL key at' l)) ∨ ev = 2) := by
  by_cases hn : n ≤ 256
  · refine (seal_ok key at' a n c l w hk hn h).mono ?_
    rintro e w1 ⟨g, rfl, hB, b⟩
    exact ⟨_, n, 0, rfl, b, .inl ⟨rfl, rfl, hB⟩⟩
  · refine (seal_many key at' a n c w hk (by omega)).mono ?_
    rintro e w1 ⟨rfl, rfl⟩
    exact ⟨none, 0, 2, rfl, Below.refl _ _, .inr rfl⟩

set_option maxHeartbeats 2000000 in
set_option maxRecDepth 100000 in
theorem sealBack_ok (key at' : Int) (a : Option Addr) (n c : Nat) (l : List Int) (a2 : Option Addr) (m d : Nat) (l2 : List Int) (want : Int) (w : World) (hk : keyB key at' = true) (hn : n ≤ 256) (hm : m ≤ maxLen)
    (h : BytesAt w a n l) (hh : BytesAt w a2 m l2) (hw0 : 0 ≤ want) (hw1 : want < 256) :
    Calls Try.prog 5 #[.int .i64 key, .int .i64 at', .slice a n c, .slice a2 m d, .int .u8 want] w fun e w' => e = .returned (.bool true) ∧ Below w.heap.size w w' := by
  unfold maxLen at hm
  go_enter Try.func5, Try.ntmps5
  go_wp2_with fail
  refine (seal_ok key at' a n c l _ hk hn h).mono ?_
  rintro e w1 ⟨g1, rfl, x1, b1⟩
  have h1 := h.below b1
  have hh1 := hh.below b1
  have hlb := h.2.1
  clear h hh
  go_wp2_with fail
  refine (sealed_any _).mono ?_
  rintro e w2 ⟨rfl, b2⟩
  have h2 := h1.below b2
  have hh2 := hh1.below b2
  have x2 := x1.below b2
  have c2 := Below.tr b1 b2
  clear h1 hh1 x1 b1 b2
  go_wp2_with fail
  refine (open_ok key at' _ n _ _ _ hk hn x2).mono ?_
  rintro e w3 ⟨g3, rfl, y3, b3⟩
  rw [open_sealL _ _ _ hlb] at y3
  have h3 := h2.below b3
  have hh3 := hh2.below b3
  have x3 := x2.below b3
  have c3 := Below.tr c2 b3
  clear h2 hh2 x2 b3 c2
  go_wp2_with fail
  refine (open_ok key at' _ n _ _ _ hk hn h3).mono ?_
  rintro e w4 ⟨g4, rfl, z4, b4⟩
  have h4 := h3.below b4
  have hh4 := hh3.below b4
  have x4 := x3.below b4
  have y4 := y3.below b4
  have c4 := Below.tr c3 b4
  clear h3 hh3 x3 y3 b4 c3
  go_wp2_with fail
  refine (seal_ok key at' _ n _ _ _ hk hn z4).mono ?_
  rintro e w5 ⟨g5, rfl, u5, b5⟩
  rw [seal_openL _ _ _ hlb] at u5
  have h5 := h4.below b5
  have hh5 := hh4.below b5
  have x5 := x4.below b5
  have y5 := y4.below b5
  have c5 := Below.tr c4 b5
  clear h4 hh4 x4 y4 z4 b5 c4
  go_wp2_with fail
  refine (equal_same _ _ n _ n _ _ _ y5 h5).mono ?_
  rintro e w5 ⟨rfl, rfl⟩
  go_wp2_with fail
  refine (equal_same _ _ n _ n _ _ _ u5 h5).mono ?_
  rintro e w5 ⟨rfl, rfl⟩
  clear u5 y5
  go_wp2_with fail
  refine (seal_either key at' _ m _ _ _ hk hh5).mono ?_
  rintro e w6 ⟨av, nv, ev, rfl, b6, hev⟩
  have h6 := h5.below b6
  have hh6 := hh5.below b6
  have x6 := x5.below b6
  have c6 := Below.tr c5 b6
  clear h5 hh5 x5 b6 c5
  go_wp2_with fail
  go_loopw [19] (fun i wr => ∃ k q : Nat, k ≤ n ∧ k ≤ m ∧ i = .int .i64 k ∧ wr = w6.drewN q) (fun i _ => n - (intOf i).toNat)
  case atStart => exact ⟨0, 0, Nat.zero_le _, Nat.zero_le _, rfl, rfl⟩
  case round =>
    obtain ⟨k, q, hkn, hkm, rfl, rfl⟩ := hrel
    rcases hev with ⟨rfl, rfl, v6⟩ | rfl
    · by_cases hlt : k < n ∧ k < nv
      · obtain ⟨hlt1, hlt2⟩ := hlt
        obtain ⟨b1, o1, rfl, _, f1⟩ := h6.2.2 (by omega)
        obtain ⟨b2, o2, rfl, _, f2⟩ := hh6.2.2 (by omega)
        obtain ⟨b3, o3, e3, _, f3⟩ := x6.2.2 (by omega)
        simp only [Option.some.injEq, Addr.mk.injEq, and_true] at e3
        obtain ⟨rfl, rfl⟩ := e3
        obtain ⟨b4, o4, rfl, _, f4⟩ := v6.2.2 (by omega)
        replace f1 := f1 k hlt1
        replace f2 := f2 k hlt2
        replace f3 := f3 k hlt1
        rw [Nat.zero_add] at f3
        replace f4 := f4 k hlt2
        rw [sealL_getD _ _ _ _ (by rw [h6.1]; exact hlt1)] at f3
        rw [sealL_getD _ _ _ _ (by rw [hh6.1]; exact hlt2)] at f4
        have q1 := h6.bd hlt1
        have q2 := hh6.bd hlt2
        clear h6 hh6 x6 v6 hlb
        have hbq := add8_beq (l.getD k 0) (l2.getD k 0) (outb (xk (start key at') (k + 1))) q1 q2
        clear q1 q2
        generalize add8 (l.getD k 0) (outb (xk (start key at') (k + 1))) = s1 at *
        generalize add8 (l2.getD k 0) (outb (xk (start key at') (k + 1))) = s2 at *
        generalize l.getD k 0 = p1 at *
        generalize l2.getD k 0 = p2 at *
        by_cases hmn : nv < n
        all_goals
          cases hpq : (p1 == p2)
          all_goals
            rw [hpq] at hbq
            go_wp2_with fail
            go_quiet (fail)
            go_wp2
            go_roundw
            case rel => exact ⟨k + 1, q + nq, by omega, by omega, by go_num, rfl⟩
            case measure => simp [intOf]; omega
      · by_cases hmn : nv < n
        · have hge : nv ≤ k := by omega
          clear hh6 hlb hm hlt v6
          have h7 := h6.drewN q
          have x7 := x6.drewN q
          have c7 := below_drewN c6 q
          clear h6 x6 c6
          generalize w6.drewN q = w7 at *
          rcases n with _ | n
          · omega
          · obtain ⟨b1, o1, rfl, hb1, _⟩ := h7.2.2 (by omega)
            go_wp2_with fail
            refine (clone_ok b1 o1 (n + 1) c l w7 hn (by omega) h7).mono ?_
            rintro e w8 ⟨g, cap, rfl, hown, b8⟩
            have x8 := x7.below b8
            have hd : w8.cell? ⟨g, n, none⟩ = some (.int .u8 (l.getD n 0)) := by
              rw [hown.cellAt n (by omega)]
              have := h7.1
              simp [List.getD, this]
            have hdf : w8.frozen? ⟨g, n, none⟩ = false := hown.frozenAt n
            obtain ⟨b3, o3, e3, _, f3⟩ := x8.2.2 (by omega)
            simp only [Option.some.injEq, Addr.mk.injEq, and_true] at e3
            obtain ⟨rfl, rfl⟩ := e3
            replace f3 := f3 n (by omega)
            rw [Nat.zero_add, sealL_getD _ _ _ _ (by rw [h7.1]; omega)] at f3
            have q1 := h7.bd (i := n) (by omega)
            have hll := h7.1
            have hlb := h7.2.1
            have H := hid (back_step key at' l n want w8 hll hlb ⟨hw0, hw1⟩ q1 hown)
            have hBB : w.heap.size ≤ w7.heap.size := c7.size
            have b9 := hid (Below.tr c7 b8)
            clear x8 x7 h7 hb1 c7 b8 hown
            generalize hs : add8 (l.getD n 0) (outb (xk (start key at') (n + 1))) = s1 at *
            generalize hp : l.getD n 0 = p1 at *
            clear hs hp
            go_wp2_with fail
            go_region
            go_wp2_with fail
            obtain ⟨l', hl', hwant, b10⟩ := H.out
            refine (seal_ok key at' _ (n + 1) _ l' _ hk hn hl').mono ?_
            rintro e w10 ⟨g10, rfl, u10', b11⟩
            obtain ⟨b4, o4, e4, _, f4⟩ := u10'.2.2 (by omega)
            simp only [Option.some.injEq, Addr.mk.injEq, and_true] at e4
            obtain ⟨rfl, rfl⟩ := e4
            replace f4 := f4 n (by omega)
            rw [Nat.zero_add, hwant] at f4
            have b12 := hid (Below.tr (b9.out.trans (b10.mono hBB)) b11)
            clear b11 b10 u10' hl' hwant H b9 hd hdf f3
            go_wp2
            go_ret
            exact ⟨rfl, b12.out⟩
        · have hge : n ≤ k := by omega
          clear hh6 hlb hm hlt v6
          have h7 := h6.drewN q
          have x7 := x6.drewN q
          have c7 := below_drewN c6 q
          clear h6 x6 c6
          generalize w6.drewN q = w7 at *
          rcases n with _ | n
          · go_wp2
            go_ret
            exact ⟨rfl, c7⟩
          · obtain ⟨b1, o1, rfl, hb1, _⟩ := h7.2.2 (by omega)
            go_wp2_with fail
            refine (clone_ok b1 o1 (n + 1) c l w7 hn (by omega) h7).mono ?_
            rintro e w8 ⟨g, cap, rfl, hown, b8⟩
            have x8 := x7.below b8
            have hd : w8.cell? ⟨g, n, none⟩ = some (.int .u8 (l.getD n 0)) := by
              rw [hown.cellAt n (by omega)]
              have := h7.1
              simp [List.getD, this]
            have hdf : w8.frozen? ⟨g, n, none⟩ = false := hown.frozenAt n
            obtain ⟨b3, o3, e3, _, f3⟩ := x8.2.2 (by omega)
            simp only [Option.some.injEq, Addr.mk.injEq, and_true] at e3
            obtain ⟨rfl, rfl⟩ := e3
            replace f3 := f3 n (by omega)
            rw [Nat.zero_add, sealL_getD _ _ _ _ (by rw [h7.1]; omega)] at f3
            have q1 := h7.bd (i := n) (by omega)
            have hll := h7.1
            have hlb := h7.2.1
            have H := hid (back_step key at' l n want w8 hll hlb ⟨hw0, hw1⟩ q1 hown)
            have hBB : w.heap.size ≤ w7.heap.size := c7.size
            have b9 := hid (Below.tr c7 b8)
            clear x8 x7 h7 hb1 c7 b8 hown
            generalize hs : add8 (l.getD n 0) (outb (xk (start key at') (n + 1))) = s1 at *
            generalize hp : l.getD n 0 = p1 at *
            clear hs hp
            go_wp2_with fail
            go_region
            go_wp2_with fail
            obtain ⟨l', hl', hwant, b10⟩ := H.out
            refine (seal_ok key at' _ (n + 1) _ l' _ hk hn hl').mono ?_
            rintro e w10 ⟨g10, rfl, u10', b11⟩
            obtain ⟨b4, o4, e4, _, f4⟩ := u10'.2.2 (by omega)
            simp only [Option.some.injEq, Addr.mk.injEq, and_true] at e4
            obtain ⟨rfl, rfl⟩ := e4
            replace f4 := f4 n (by omega)
            rw [Nat.zero_add, hwant] at f4
            have b12 := hid (Below.tr (b9.out.trans (b10.mono hBB)) b11)
            clear b11 b10 u10' hl' hwant H b9 hd hdf f3
            go_wp2
            go_ret
            exact ⟨rfl, b12.out⟩
    · clear hh6 hlb hm
      have h7 := h6.drewN q
      have x7 := x6.drewN q
      have c7 := below_drewN c6 q
      clear h6 x6 c6
      generalize w6.drewN q = w7 at *
      rcases n with _ | n
      · go_wp2
        go_ret
        exact ⟨rfl, c7⟩
      · obtain ⟨b1, o1, rfl, hb1, _⟩ := h7.2.2 (by omega)
        go_wp2_with fail
        refine (clone_ok b1 o1 (n + 1) c l w7 hn (by omega) h7).mono ?_
        rintro e w8 ⟨g, cap, rfl, hown, b8⟩
        have x8 := x7.below b8
        have hd : w8.cell? ⟨g, n, none⟩ = some (.int .u8 (l.getD n 0)) := by
          rw [hown.cellAt n (by omega)]
          have := h7.1
          simp [List.getD, this]
        have hdf : w8.frozen? ⟨g, n, none⟩ = false := hown.frozenAt n
        obtain ⟨b3, o3, e3, _, f3⟩ := x8.2.2 (by omega)
        simp only [Option.some.injEq, Addr.mk.injEq, and_true] at e3
        obtain ⟨rfl, rfl⟩ := e3
        replace f3 := f3 n (by omega)
        rw [Nat.zero_add, sealL_getD _ _ _ _ (by rw [h7.1]; omega)] at f3
        have q1 := h7.bd (i := n) (by omega)
        have hll := h7.1
        have hlb := h7.2.1
        have H := hid (back_step key at' l n want w8 hll hlb ⟨hw0, hw1⟩ q1 hown)
        have hBB : w.heap.size ≤ w7.heap.size := c7.size
        have b9 := hid (Below.tr c7 b8)
        clear x8 x7 h7 hb1 c7 b8 hown
        generalize hs : add8 (l.getD n 0) (outb (xk (start key at') (n + 1))) = s1 at *
        generalize hp : l.getD n 0 = p1 at *
        clear hs hp
        go_wp2_with fail
        go_region
        go_wp2_with fail
        obtain ⟨l', hl', hwant, b10⟩ := H.out
        refine (seal_ok key at' _ (n + 1) _ l' _ hk hn hl').mono ?_
        rintro e w10 ⟨g10, rfl, u10', b11⟩
        obtain ⟨b4, o4, e4, _, f4⟩ := u10'.2.2 (by omega)
        simp only [Option.some.injEq, Addr.mk.injEq, and_true] at e4
        obtain ⟨rfl, rfl⟩ := e4
        replace f4 := f4 n (by omega)
        rw [Nat.zero_add, hwant] at f4
        have b12 := hid (Below.tr (b9.out.trans (b10.mono hBB)) b11)
        clear b11 b10 u10' hl' hwant H b9 hd hdf f3
        go_wp2
        go_ret
        exact ⟨rfl, b12.out⟩

theorem sealBack_walk (key at' : Int) (a : Option Addr) (n c : Nat) (l : List Int) (a2 : Option Addr) (m d : Nat) (l2 : List Int) (want : Int) (w : World) (hm : m ≤ maxLen)
    (h : BytesAt w a n l) (hh : BytesAt w a2 m l2) (hw0 : 0 ≤ want) (hw1 : want < 256) :
    Calls Try.prog 5 #[.int .i64 key, .int .i64 at', .slice a n c, .slice a2 m d, .int .u8 want] w fun e w' => e = .returned (.bool true) ∧ Below w.heap.size w w' := by
  by_cases hk : keyB key at' = true
  · by_cases hn : n ≤ 256
    · exact sealBack_ok key at' a n c l a2 m d l2 want w hk hn hm h hh hw0 hw1
    · exact sealBack_many key at' a n c a2 m d want w hk (by omega)
  · exact sealBack_range key at' a n c a2 m d want w (by simpa using hk)

end Go.Proofs.Ytjiodpggbmldnaa
