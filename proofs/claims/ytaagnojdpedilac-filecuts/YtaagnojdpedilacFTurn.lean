/-
  The contract of package seal's turn: the one loop of Seal and Open. Nothing here is trusted.
-/
import Derived.Test.YtaagnojdpedilacFSmall
set_option linter.unusedVariables false
namespace Go.Proofs.Ytaagnojdpedilac
open Go.RowKit

theorem made_bytes (n : Nat) : (madeCells (Value.cells (.int .u8 0)) (n * 1)).toList = (List.replicate n (0 : Int)).map (Value.int .u8) := by
  apply List.ext_getElem
  · simp [madeCells]
  · intro i h1 h2
    simp [madeCells, Value.cells, Nat.mod_one]

/-- what holds of the call's own memory after k rounds: the stream's number, the row -/
def Inv (f : Int → Int → Int) (x : Int) (l : List Int) (B n k : Nat) (w wr : World) : Prop :=
  wr.heap[B]? = some (.cells #[.int .i64 (xk x k)] 3 (0, 0)) ∧
  wr.ownsRow (B + 1) 5 1 (.slice (some ⟨B + 1, 0, none⟩) n n) n ((part f x l n k).map (Value.int .u8)) ∧ Below B w wr

theorem Inv.start {f : Int → Int → Int} {x : Int} {l : List Int} {n : Nat} {w w2 : World}
    (hown : w2.ownsRow (w.heap.size + 1) 5 1 (.slice (some ⟨w.heap.size + 1, 0, none⟩) n n) n (madeCells (Value.cells (.int .u8 0)) (n * 1)).toList)
    (hgr : (w.alloc (.cells #[.int .i64 x] 3)).grownBy w2 none) : Inv f x l w.heap.size n 0 w w2 := by
  refine ⟨?_, ?_, ((Below.refl _ _).alloc (Nat.le_refl _) _).grown hgr (by simp) (by simp)⟩
  · rw [hgr.block w.heap.size (by simp) (by simp)]
    exact heap_alloc_new w _
  · rw [part_zero, ← made_bytes]; exact hown

theorem Inv.step {f : Int → Int → Int} {x : Int} {l : List Int} {B n k : Nat} {w wr : World} (h : Inv f x l B n k w wr) :
    Inv f x l B n (k + 1) w ((wr.setCell ⟨B, 0, none⟩ (.int .i64 (nxt (xk x k)))).setCell ⟨B + 1, k, none⟩ (.int .u8 (f (l.getD k 0) (outb (nxt (xk x k)))))) := by
  obtain ⟨h1, h2, h3⟩ := h
  refine ⟨?_, ?_, (h3.setCell (Nat.le_refl _) _).setCell (by simp) _⟩
  · rw [Below.heap_setCell _ _ _ _ (by simp)]
    exact one_setCell h1
  · have := ((ownsRow_setCell_below h2 (a := ⟨B, 0, none⟩) (by simp) (.int .i64 (nxt (xk x k)))).stored k (.int .u8 (f (l.getD k 0) (outb (nxt (xk x k)))))).1
    rw [← part_succ, List.map_set]
    exact this

set_option maxHeartbeats 1000000 in
set_option maxRecDepth 100000 in
theorem turnAdd_ok (key at' : Int) (a : Option Addr) (n c : Nat) (l : List Int) (w : World) (hk : keyB key at' = true) (hn : n ≤ 256) (h : BytesAt w a n l) :
    Calls Try.prog 99 #[.int .i64 key, .int .i64 at', .slice a n c, .func (.func 120) #[] #[]] w fun e w' =>
      ∃ g, e = .returned (.tuple #[.slice (some ⟨g, 0, none⟩) n n, .int .i64 0]) ∧ w'.ownsRow w.heap.size 5 1 (.slice (some ⟨g, 0, none⟩) n n) n ((mixed add8 (start key at') l n).map (Value.int .u8)) ∧ Below w.heap.size w w' := by
  obtain ⟨i0, hi, hz0, hz1, hz2⟩ := info_parts Try.infoByte
  obtain ⟨k0, k1, k2, k3⟩ := keyB_true hk
  go_enter Try.func99, Try.ntmps99
  go_wp2_with fail
  refine (check_ok key at' _ hk).mono ?_
  rintro e w ⟨rfl, rfl⟩
  go_wp2_with fail
  refine (stream_any key at' _ k0 k1 k2 k3).mono ?_
  rintro e w1 ⟨rfl, rfl⟩
  go_wp2_with (at_make; refine wpList_make_full _ rfl (.tmp 28) (.tmp 28) 25 rfl (w.heap.size + 1) 5 i0 (.int .u8 0) 1 Try.underlying25 hi hz0 hz1 .i64 .i64 n n n rfl rfl rfl rfl (by rw [hz2]; omega) (by unfold maxLen; omega) (by simp) ?_; intro w2 hown hgr)
  have hx := start_bd key at'
  go_loopw [32] (fun i wr => ∃ k : Nat, k ≤ n ∧ i = .int .i64 k ∧ Inv add8 (start key at') l w.heap.size n k w wr) (fun i _ => n - (Go.RowKit.intOf i).toNat)
  case atStart => exact ⟨0, Nat.zero_le _, rfl, Inv.start (by simpa using hown) hgr⟩
  case round =>
    clear hown hgr
    obtain ⟨k, hkn, rfl, hinv⟩ := hrel
    by_cases hlt : k < n
    · obtain ⟨b, off, rfl, hb, hc⟩ := h.2.2 (by omega)
      have hck : wr.cell? ⟨b, off + k, none⟩ = some (.int .u8 (l.getD k 0)) := (hinv.2.2.cell (by exact hb)).trans (hc k hlt)
      have hxc := cell_of_one hinv.1
      have hxf := free_of_one hinv.1
      have hxb := xk_bd (start key at') hx.1 hx.2 k
      have hob := outb_bd (nxt (xk (start key at') k))
      have hoc : wr.cell? ⟨w.heap.size + 1, k, none⟩ = some (.int .u8 ((part add8 (start key at') l n k).getD k 0)) := by
        rw [hinv.2.1.cellAt k (by omega)]
        simp [part, hlt]
      have hof := hinv.2.1.frozenAt k
      have hlk : 0 ≤ l.getD k 0 ∧ l.getD k 0 < 256 := h.bd hlt
      have hstep := hid hinv.step
      clear hinv hc h hx
      generalize l.getD k 0 = lk at *
      generalize xk (start key at') k = xx at *
      generalize (part add8 (start key at') l n k).getD k 0 = old at *
      go_wp2_with fail
      refine (next_any w.heap.size xx wr hxb.1 hxb.2 hxc hxf).mono ?_
      rintro e w3 ⟨rfl, rfl⟩
      have hoc3 : (wr.setCell ⟨w.heap.size, 0, none⟩ (.int .i64 (nxt xx))).cell? ⟨w.heap.size + 1, k, none⟩ = some (.int .u8 old) := by rw [cell_past_set _ _ _ _ (by simp)]; exact hoc
      have hof3 : (wr.setCell ⟨w.heap.size, 0, none⟩ (.int .i64 (nxt xx))).frozen? ⟨w.heap.size + 1, k, none⟩ = false := by rw [frozen_past_set _ _ _ _ (by simp)]; exact hof
      generalize outb (nxt xx) = ob at *
      generalize nxt xx = nx at *
      generalize wr.setCell ⟨w.heap.size, 0, none⟩ (.int .i64 nx) = w4 at *
      go_wp2_with fail
      refine (add_any lk ob w4 hlk.1 hlk.2 hob.1 hob.2).mono ?_
      rintro e w4 ⟨rfl, rfl⟩
      go_wp2_with fail
      go_roundw
      case rel => exact ⟨k + 1, by omega, by go_num, hstep.out⟩
      case measure => simp [Go.RowKit.intOf]; omega
    · have hkk : k = n := by omega
      subst hkk
      clear h hx
      go_wp2
      go_ret2
      exact ⟨w.heap.size + 1, rfl, by rw [← part_all]; exact ownsRow_base (by omega) hinv.2.1, hinv.2.2⟩

set_option maxHeartbeats 1000000 in
set_option maxRecDepth 100000 in
theorem turnSub_ok (key at' : Int) (a : Option Addr) (n c : Nat) (l : List Int) (w : World) (hk : keyB key at' = true) (hn : n ≤ 256) (h : BytesAt w a n l) :
    Calls Try.prog 99 #[.int .i64 key, .int .i64 at', .slice a n c, .func (.func 100) #[] #[]] w fun e w' =>
      ∃ g, e = .returned (.tuple #[.slice (some ⟨g, 0, none⟩) n n, .int .i64 0]) ∧ w'.ownsRow w.heap.size 5 1 (.slice (some ⟨g, 0, none⟩) n n) n ((mixed sub8 (start key at') l n).map (Value.int .u8)) ∧ Below w.heap.size w w' := by
  obtain ⟨i0, hi, hz0, hz1, hz2⟩ := info_parts Try.infoByte
  obtain ⟨k0, k1, k2, k3⟩ := keyB_true hk
  go_enter Try.func99, Try.ntmps99
  go_wp2_with fail
  refine (check_ok key at' _ hk).mono ?_
  rintro e w ⟨rfl, rfl⟩
  go_wp2_with fail
  refine (stream_any key at' _ k0 k1 k2 k3).mono ?_
  rintro e w1 ⟨rfl, rfl⟩
  go_wp2_with (at_make; refine wpList_make_full _ rfl (.tmp 28) (.tmp 28) 25 rfl (w.heap.size + 1) 5 i0 (.int .u8 0) 1 Try.underlying25 hi hz0 hz1 .i64 .i64 n n n rfl rfl rfl rfl (by rw [hz2]; omega) (by unfold maxLen; omega) (by simp) ?_; intro w2 hown hgr)
  have hx := start_bd key at'
  go_loopw [32] (fun i wr => ∃ k : Nat, k ≤ n ∧ i = .int .i64 k ∧ Inv sub8 (start key at') l w.heap.size n k w wr) (fun i _ => n - (Go.RowKit.intOf i).toNat)
  case atStart => exact ⟨0, Nat.zero_le _, rfl, Inv.start (by simpa using hown) hgr⟩
  case round =>
    clear hown hgr
    obtain ⟨k, hkn, rfl, hinv⟩ := hrel
    by_cases hlt : k < n
    · obtain ⟨b, off, rfl, hb, hc⟩ := h.2.2 (by omega)
      have hck : wr.cell? ⟨b, off + k, none⟩ = some (.int .u8 (l.getD k 0)) := (hinv.2.2.cell (by exact hb)).trans (hc k hlt)
      have hxc := cell_of_one hinv.1
      have hxf := free_of_one hinv.1
      have hxb := xk_bd (start key at') hx.1 hx.2 k
      have hob := outb_bd (nxt (xk (start key at') k))
      have hoc : wr.cell? ⟨w.heap.size + 1, k, none⟩ = some (.int .u8 ((part sub8 (start key at') l n k).getD k 0)) := by
        rw [hinv.2.1.cellAt k (by omega)]
        simp [part, hlt]
      have hof := hinv.2.1.frozenAt k
      have hlk : 0 ≤ l.getD k 0 ∧ l.getD k 0 < 256 := h.bd hlt
      have hstep := hid hinv.step
      clear hinv hc h hx
      generalize l.getD k 0 = lk at *
      generalize xk (start key at') k = xx at *
      generalize (part sub8 (start key at') l n k).getD k 0 = old at *
      go_wp2_with fail
      refine (next_any w.heap.size xx wr hxb.1 hxb.2 hxc hxf).mono ?_
      rintro e w3 ⟨rfl, rfl⟩
      have hoc3 : (wr.setCell ⟨w.heap.size, 0, none⟩ (.int .i64 (nxt xx))).cell? ⟨w.heap.size + 1, k, none⟩ = some (.int .u8 old) := by rw [cell_past_set _ _ _ _ (by simp)]; exact hoc
      have hof3 : (wr.setCell ⟨w.heap.size, 0, none⟩ (.int .i64 (nxt xx))).frozen? ⟨w.heap.size + 1, k, none⟩ = false := by rw [frozen_past_set _ _ _ _ (by simp)]; exact hof
      generalize outb (nxt xx) = ob at *
      generalize nxt xx = nx at *
      generalize wr.setCell ⟨w.heap.size, 0, none⟩ (.int .i64 nx) = w4 at *
      go_wp2_with fail
      refine (sub_any lk ob w4 hlk.1 hlk.2 hob.1 hob.2).mono ?_
      rintro e w4 ⟨rfl, rfl⟩
      go_wp2_with fail
      go_roundw
      case rel => exact ⟨k + 1, by omega, by go_num, hstep.out⟩
      case measure => simp [Go.RowKit.intOf]; omega
    · have hkk : k = n := by omega
      subst hkk
      clear h hx
      go_wp2
      go_ret2
      exact ⟨w.heap.size + 1, rfl, by rw [← part_all]; exact ownsRow_base (by omega) hinv.2.1, hinv.2.2⟩

end Go.Proofs.Ytaagnojdpedilac
