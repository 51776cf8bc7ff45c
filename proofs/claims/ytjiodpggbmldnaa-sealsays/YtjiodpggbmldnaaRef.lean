/-
  The contracts of the reference's stream, Sealed and Opened. Nothing here is trusted.
-/
import Derived.Test.YtjiodpggbmldnaaLists
set_option linter.unusedVariables false
namespace Go.Proofs.Ytjiodpggbmldnaa
open Go.RowKit

/-- the stream's first k bytes behind x -/
def stm (x : Int) (k : Nat) : List Int := (List.range k).map fun i => outb (xk x (i + 1))
theorem stm_length (x : Int) (k : Nat) : (stm x k).length = k := by simp [stm]
theorem stm_succ (x : Int) (k : Nat) : stm x (k + 1) = stm x k ++ [outb (nxt (xk x k))] := by simp [stm, List.range_succ]; rfl

theorem nxt_mod (x : Int) : nxt (x % 65537) = nxt x := by unfold nxt; omega
theorem xk_mod (x : Int) (k : Nat) : xk (x % 65537) (k + 1) = xk x (k + 1) := by
  induction k with
  | zero => exact nxt_mod x
  | succ k ih => show nxt (xk (x % 65537) (k + 1)) = nxt (xk x (k + 1)); rw [ih]
theorem stm_mod (x : Int) (k : Nat) : stm (x % 65537) k = stm x k := by
  unfold stm
  apply List.map_congr_left
  intro i _
  rw [xk_mod]

theorem xk_wide (x : Int) (h0 : 0 ≤ x) (h1 : x < 1000000000) (k : Nat) : 0 ≤ xk x k ∧ xk x k < 1000000000 := by
  cases k with
  | zero => exact ⟨h0, h1⟩
  | succ k => have := nxt_bd (xk x k); exact ⟨this.1, by show nxt _ < _; omega⟩

set_option maxHeartbeats 1000000 in
set_option maxRecDepth 100000 in
theorem refStream_any (key at' : Int) (n : Nat) (w : World) (h0 : 0 ≤ key) (h1 : key ≤ 1000) (h2 : 0 ≤ at') (h3 : at' ≤ 255) (hn : n ≤ 256) :
    Calls Try.prog 21 #[.int .i64 key, .int .i64 at', .int .i64 n] w fun e w' =>
      ∃ v, e = .returned v ∧ w'.ownsRow w.heap.size 5 1 v n ((stm (start key at') n).map (Value.int .u8)) ∧ Below w.heap.size w w' := by
  obtain ⟨i0, hi, hz0, hz1, hz2⟩ := info_parts Try.infoByte
  have hst : Hid (∀ k, stm (start key at') k = stm (104729 * key + 7919 * at' + 12345) k) := by
    intro k; unfold start; rw [stm_mod]; congr 1; omega
  have hx0 : 0 ≤ 104729 * key + 7919 * at' + 12345 := by omega
  have hx1 : 104729 * key + 7919 * at' + 12345 < 1000000000 := by omega
  have hwid := hid (xk_wide _ hx0 hx1)
  clear hx0 hx1
  go_enter Try.func21, Try.ntmps21
  go_wp2
  generalize 104729 * key + 7919 * at' + 12345 = x0 at *
  go_loopw [7, 8, 16] (fun x v i wr => ∃ k : Nat, k ≤ n ∧ i = .int .i64 k ∧ x = .int .i64 (xk x0 k) ∧ wr.ownsRow w.heap.size 5 1 v k ((stm x0 k).map (Value.int .u8)) ∧ Below w.heap.size w wr) (fun _ _ i _ => n - (intOf i).toNat)
  case atStart => exact ⟨0, Nat.zero_le _, rfl, rfl, World.ownsRow_nil _ _ _ _, Below.refl _ _⟩
  case round =>
    obtain ⟨k, hkn, rfl, rfl, hown, hbel⟩ := hrel
    by_cases hlt : k < n
    · have hb := hwid.out k
      have hnb := nxt_bd (xk x0 k)
      have hob := outb_bd (nxt (xk x0 k))
      have hs := hid (stm_succ x0 k)
      have hsz := hbel.size
      generalize hxx : xk x0 k = xx at *
      have hnx : Hid (xk x0 (k + 1) = nxt xx) := by show nxt (xk x0 k) = _; rw [hxx]
      clear hxx
      unfold nxt at hnb hob
      unfold outb at hob
      go_wp2_with (at_builtin; refine wpList_append_own _ rfl _ _ 27 rfl w.heap.size 5 i0 (.int .u8 0) 1 1 Try.underlying27 hi hz0 hz1 hz2 rfl (by decide) _ _ _ rfl (hown.alloc _) ⟨wr.heap.size, 0, none⟩ 1 1 [.int .u8 ((75 * xx + 74) % 65537 / 8 % 256)] rfl rfl ?c1 ?c2 ?c3 ?c4 ?c5 ?_)
      case c1 =>
        intro j u hj
        match j, hj with
        | 0, hj => simp at hj; subst hj; simp [Addr.add]
      case c2 => intro u hu; simp at hu; subst hu; rfl
      case c3 => unfold maxLen; omega
      case c4 => omega
      case c5 => simp; omega
      · intro v' w1 hown' hgrow _
        have hbel' := (hbel.alloc (by omega) _).grown hgrow (by simp; omega) (by
          intro k' hk'
          exact (hown.lt k' hk').1)
        have hown2 : w1.ownsRow w.heap.size 5 1 v' (k + 1) ((stm x0 (k + 1)).map (Value.int .u8)) := by
          rw [hs.out, List.map_append]; exact hown'
        clear hown hown' hgrow hs hbel
        go_wp2
        go_roundw
        case rel => exact ⟨k + 1, by omega, by go_num, by rw [hnx.out]; rfl, hown2, hbel'⟩
        case measure => simp [intOf]; omega
    · have hkk : k = n := by omega
      subst hkk
      go_wp2
      go_ret
      exact ⟨_, rfl, by rw [hst.out]; exact hown, hbel⟩

/-- the row after k rounds: k places are mixed, the others bear the stream -/
def partS (f : Int → Int → Int) (x : Int) (zs : List Int) (n k : Nat) : List Int := (List.range n).map fun i => if i < k then mixAt f x zs i else outb (xk x (i + 1))
theorem partS_zero (f : Int → Int → Int) (x : Int) (zs : List Int) (n : Nat) : partS f x zs n 0 = stm x n := by simp [partS, stm]
theorem partS_all (f : Int → Int → Int) (x : Int) (zs : List Int) (n : Nat) : partS f x zs n n = mixed f x zs n := by
  unfold partS mixed
  apply List.map_congr_left
  intro i hi
  simp at hi
  simp [hi]
theorem partS_at (f : Int → Int → Int) (x : Int) (zs : List Int) (n k : Nat) (h : k < n) : (partS f x zs n k)[k]? = some (outb (xk x (k + 1))) := by
  simp [partS, h]
theorem partS_succ (f : Int → Int → Int) (x : Int) (zs : List Int) (n k : Nat) : (partS f x zs n k).set k (mixAt f x zs k) = partS f x zs n (k + 1) := by
  apply List.ext_getElem?
  intro i
  rw [List.getElem?_set]
  by_cases hi : i < n
  · by_cases e : k = i
    · subst e
      simp [partS, hi]
    · rw [if_neg e]
      have : (i < k + 1) ↔ (i < k) := by omega
      simp [partS, hi, this]
  · have hl : n ≤ i := by omega
    by_cases e : k = i
    · subst e; simp [partS, hi]
    · rw [if_neg e]; simp [partS, hl]

theorem stepS {f : Int → Int → Int} {x : Int} {l : List Int} {B g n cap k : Nat} {w wr : World} (hown : wr.ownsRow B 5 1 (.slice (some ⟨g, 0, none⟩) n cap) n ((partS f x l n k).map (Value.int .u8))) (hbel : Below B w wr) :
    (wr.setCell ⟨g, k, none⟩ (.int .u8 (f (l.getD k 0) (outb (xk x (k + 1)))))).ownsRow B 5 1 (.slice (some ⟨g, 0, none⟩) n cap) n ((partS f x l n (k + 1)).map (Value.int .u8)) ∧
      Below B w (wr.setCell ⟨g, k, none⟩ (.int .u8 (f (l.getD k 0) (outb (xk x (k + 1)))))) := by
  refine ⟨?_, hbel.setCell (hown.lt g rfl).1 _⟩
  have := (hown.stored k (.int .u8 (f (l.getD k 0) (outb (xk x (k + 1)))))).1
  rw [← partS_succ, List.map_set]
  exact this

theorem bytesAt_ownAny {B : Nat} {w : World} {a : Option Addr} {n cap : Nat} {l : List Int} (hl : ∀ x ∈ l, 0 ≤ x ∧ x < 256) (h : w.ownsRow B 5 1 (.slice a n cap) n (l.map (Value.int .u8))) : BytesAt w a n l := by
  have hn : l.length = n := by have := h.1; simpa using this
  rcases h.2 with ⟨hv, h0⟩ | ⟨g, cap', cur, hv, _⟩
  · subst h0
    exact ⟨hn, hl, fun hp => absurd hp (by omega)⟩
  · simp only [Value.slice.injEq] at hv
    obtain ⟨rfl, _, rfl⟩ := hv
    refine ⟨hn, hl, fun hp => ⟨g, 0, rfl, (h.lt g rfl).2, fun i hi => ?_⟩⟩
    rw [Nat.zero_add, h.cellAt i (by omega)]
    simp [hn, hi]

set_option maxHeartbeats 1000000 in
set_option maxRecDepth 100000 in
theorem refSealed_any (key at' : Int) (a : Option Addr) (n c : Nat) (l : List Int) (w : World) (hk : keyB key at' = true) (hn : n ≤ 256) (h : BytesAt w a n l) :
    Calls Try.prog 14 #[.int .i64 key, .int .i64 at', .slice a n c] w fun e w' =>
      ∃ a' c', e = .returned (.slice a' n c') ∧ BytesAt w' a' n (sealL key at' l) ∧ Below w.heap.size w w' := by
  obtain ⟨k0, k1, k2, k3⟩ := keyB_true hk
  have hfin : Hid (mixed add8 (start key at') l n = sealL key at' l) := by unfold sealL; rw [h.1]; rfl
  go_enter Try.func14, Try.ntmps14
  go_wp2_with fail
  refine (refStream_any key at' n _ k0 k1 k2 k3 hn).mono ?_
  rintro e w1 ⟨v, rfl, hown, hbel⟩
  obtain ⟨a', c', rfl⟩ : ∃ a' c', v = .slice a' n c' := by
    rcases hown.2 with ⟨rfl, rfl⟩ | ⟨g, cap, cur, rfl, _⟩
    · exact ⟨_, _, rfl⟩
    · exact ⟨_, _, rfl⟩
  generalize start key at' = x0 at *
  have hnil : n = 0 ∨ ∃ g, a' = some ⟨g, 0, none⟩ := by
    rcases hown.2 with ⟨_, h0⟩ | ⟨g, cap, cur, hv, _⟩
    · exact .inl h0
    · simp only [Value.slice.injEq] at hv; exact .inr ⟨g, hv.1⟩
  have H := hid hnil
  clear hnil
  rw [← partS_zero add8 x0 l] at hown
  go_wp2_with fail
  go_loopw [17] (fun i wr => ∃ k : Nat, k ≤ n ∧ i = .int .i64 k ∧ wr.ownsRow w.heap.size 5 1 (.slice a' n c') n ((partS add8 x0 l n k).map (Value.int .u8)) ∧ Below w.heap.size w wr) (fun i _ => n - (intOf i).toNat)
  case atStart => exact ⟨0, Nat.zero_le _, rfl, hown, hbel⟩
  case round =>
    clear hown hbel
    obtain ⟨k, hkn, rfl, hown, hbel⟩ := hrel
    by_cases hlt : k < n
    · obtain ⟨g, rfl⟩ : ∃ g, a' = some ⟨g, 0, none⟩ := by
        rcases H.out with h0 | h0
        · omega
        · exact h0
      obtain ⟨b, off, rfl, hb, hc⟩ := h.2.2 (by omega)
      have hck : wr.cell? ⟨b, off + k, none⟩ = some (.int .u8 (l.getD k 0)) := (hbel.cell (by exact hb)).trans (hc k hlt)
      have hlk := h.bd hlt
      have hob := outb_bd (xk x0 (k + 1))
      have hoc : wr.cell? ⟨g, k, none⟩ = some (.int .u8 (outb (xk x0 (k + 1)))) := by
        rw [hown.cellAt k (by omega), List.getElem?_map, partS_at _ _ _ _ _ hlt]; rfl
      have hof := hown.frozenAt k
      have hstep := hid (stepS hown hbel)
      clear hown hbel hc h hfin H
      generalize l.getD k 0 = lk at *
      generalize outb (xk x0 (k + 1)) = ob at *
      have hval : add8 lk ob = (ob + lk) % 256 := by unfold add8; omega
      rw [hval] at hstep
      clear hval
      go_wp2_with fail
      go_roundw
      case rel => exact ⟨k + 1, by omega, by go_num, hstep.out.1, hstep.out.2⟩
      case measure => simp [intOf]; omega
    · have hkk : k = n := by omega
      subst hkk
      clear h
      have hB := bytesAt_ownAny (by rw [partS_all]; exact mixed_bd add8 add8_bd _ _ _) hown
      rw [partS_all, hfin.out] at hB
      clear hown H
      go_wp2
      go_ret
      exact ⟨_, _, rfl, hB, hbel⟩

set_option maxHeartbeats 1000000 in
set_option maxRecDepth 100000 in
theorem refOpened_any (key at' : Int) (a : Option Addr) (n c : Nat) (l : List Int) (w : World) (hk : keyB key at' = true) (hn : n ≤ 256) (h : BytesAt w a n l) :
    Calls Try.prog 15 #[.int .i64 key, .int .i64 at', .slice a n c] w fun e w' =>
      ∃ a' c', e = .returned (.slice a' n c') ∧ BytesAt w' a' n (openL key at' l) ∧ Below w.heap.size w w' := by
  obtain ⟨k0, k1, k2, k3⟩ := keyB_true hk
  have hfin : Hid (mixed sub8 (start key at') l n = openL key at' l) := by unfold openL; rw [h.1]; rfl
  go_enter Try.func15, Try.ntmps15
  go_wp2_with fail
  refine (refStream_any key at' n _ k0 k1 k2 k3 hn).mono ?_
  rintro e w1 ⟨v, rfl, hown, hbel⟩
  obtain ⟨a', c', rfl⟩ : ∃ a' c', v = .slice a' n c' := by
    rcases hown.2 with ⟨rfl, rfl⟩ | ⟨g, cap, cur, rfl, _⟩
    · exact ⟨_, _, rfl⟩
    · exact ⟨_, _, rfl⟩
  generalize start key at' = x0 at *
  have hnil : n = 0 ∨ ∃ g, a' = some ⟨g, 0, none⟩ := by
    rcases hown.2 with ⟨_, h0⟩ | ⟨g, cap, cur, hv, _⟩
    · exact .inl h0
    · simp only [Value.slice.injEq] at hv; exact .inr ⟨g, hv.1⟩
  have H := hid hnil
  clear hnil
  rw [← partS_zero sub8 x0 l] at hown
  go_wp2_with fail
  go_loopw [17] (fun i wr => ∃ k : Nat, k ≤ n ∧ i = .int .i64 k ∧ wr.ownsRow w.heap.size 5 1 (.slice a' n c') n ((partS sub8 x0 l n k).map (Value.int .u8)) ∧ Below w.heap.size w wr) (fun i _ => n - (intOf i).toNat)
  case atStart => exact ⟨0, Nat.zero_le _, rfl, hown, hbel⟩
  case round =>
    clear hown hbel
    obtain ⟨k, hkn, rfl, hown, hbel⟩ := hrel
    by_cases hlt : k < n
    · obtain ⟨g, rfl⟩ : ∃ g, a' = some ⟨g, 0, none⟩ := by
        rcases H.out with h0 | h0
        · omega
        · exact h0
      obtain ⟨b, off, rfl, hb, hc⟩ := h.2.2 (by omega)
      have hck : wr.cell? ⟨b, off + k, none⟩ = some (.int .u8 (l.getD k 0)) := (hbel.cell (by exact hb)).trans (hc k hlt)
      have hlk := h.bd hlt
      have hob := outb_bd (xk x0 (k + 1))
      have hoc : wr.cell? ⟨g, k, none⟩ = some (.int .u8 (outb (xk x0 (k + 1)))) := by
        rw [hown.cellAt k (by omega), List.getElem?_map, partS_at _ _ _ _ _ hlt]; rfl
      have hof := hown.frozenAt k
      have hstep := hid (stepS hown hbel)
      clear hown hbel hc h hfin H
      generalize l.getD k 0 = lk at *
      generalize outb (xk x0 (k + 1)) = ob at *
      have hval : sub8 lk ob = (lk - ob) % 256 := rfl
      rw [hval] at hstep
      clear hval
      go_wp2_with fail
      go_roundw
      case rel => exact ⟨k + 1, by omega, by go_num, hstep.out.1, hstep.out.2⟩
      case measure => simp [intOf]; omega
    · have hkk : k = n := by omega
      subst hkk
      clear h
      have hB := bytesAt_ownAny (by rw [partS_all]; exact mixed_bd sub8 sub8_bd _ _ _) hown
      rw [partS_all, hfin.out] at hB
      clear hown H
      go_wp2
      go_ret
      exact ⟨_, _, rfl, hB, hbel⟩

end Go.Proofs.Ytjiodpggbmldnaa
