/-
  FSmall, FTurn, FSeal in one text. Nothing here is trusted.
-/
import Derived.Test.YtihkljfcplfldaaGreatPart03
import Derived.Test.YtihkljfcplfldaaGreatPart12
import Derived.WalkKit
import Derived.Laws.BytesArg
set_option linter.unusedVariables false
namespace Go.Proofs.YtihkljfcplfldaaGreat
open Go.RowKit

theorem next_any (b : Nat) (x : Int) (w : World) (h0 : 0 ≤ x) (h1 : x < 65537) (hc : w.cell? ⟨b, 0, none⟩ = some (.int .i64 x)) (hf : w.frozen? ⟨b, 0, none⟩ = false) :
    Calls Tryz.prog 219 #[.pointer (some ⟨b, 0, none⟩)] w fun e w' => e = .returned (.int .u8 (outb (nxt x))) ∧ w' = w.setCell ⟨b, 0, none⟩ (.int .i64 (nxt x)) := by
  go_enter Tryz.func219, Tryz.ntmps219
  go_wp2
  go_ret
  exact ⟨rfl, rfl⟩

theorem add_any (p q : Int) (w : World) (h0 : 0 ≤ p) (h1 : p < 256) (h2 : 0 ≤ q) (h3 : q < 256) :
    Calls Tryz.prog 223 #[.int .u8 p, .int .u8 q] w fun e w' => e = .returned (.int .u8 (add8 p q)) ∧ w' = w := by
  go_enter Tryz.func223, Tryz.ntmps223
  go_wp2
  go_ret
  exact ⟨rfl, rfl⟩

theorem sub_any (p q : Int) (w : World) (h0 : 0 ≤ p) (h1 : p < 256) (h2 : 0 ≤ q) (h3 : q < 256) :
    Calls Tryz.prog 177 #[.int .u8 p, .int .u8 q] w fun e w' => e = .returned (.int .u8 (sub8 p q)) ∧ w' = w := by
  go_enter Tryz.func177, Tryz.ntmps177
  go_wp2
  go_ret
  exact ⟨rfl, rfl⟩

theorem stream_any (key at' : Int) (w : World) (h0 : 0 ≤ key) (h1 : key ≤ 1000) (h2 : 0 ≤ at') (h3 : at' ≤ 255) :
    Calls Tryz.prog 201 #[.int .i64 key, .int .i64 at'] w fun e w' => e = .returned (.func (.func 219) #[] #[.pointer (some ⟨w.heap.size, 0, none⟩)]) ∧ w' = w.alloc (.cells #[.int .i64 (start key at')] 3) := by
  have hmf : ∀ (fn : Fn) (first cap : Array Value) (w : World), (Instr.makeFunc fn first cap).run Tryz.prog w = .ok (.func fn first cap) w := fun _ _ _ _ => rfl
  go_enter Tryz.func201, Tryz.ntmps201
  go_wp2
  go_ret
  exact ⟨rfl, rfl⟩

/-- is it a key and a place? -/
def keyB (key at' : Int) : Bool := decide (0 ≤ key ∧ key ≤ 1000 ∧ 0 ≤ at' ∧ at' ≤ 255)
theorem keyB_true {key at' : Int} (h : keyB key at' = true) : 0 ≤ key ∧ key ≤ 1000 ∧ 0 ≤ at' ∧ at' ≤ 255 := of_decide_eq_true h
theorem keyB_false {key at' : Int} (h : keyB key at' = false) : ¬ (0 ≤ key ∧ key ≤ 1000 ∧ 0 ≤ at' ∧ at' ≤ 255) := of_decide_eq_false h

theorem check_ok (key at' : Int) (w : World) (h : keyB key at' = true) :
    Calls Tryz.prog 52 #[.int .i64 key, .int .i64 at'] w fun e w' => e = .returned (.int .i64 0) ∧ w' = w := by
  obtain ⟨h0, h1, h2, h3⟩ := keyB_true h
  clear h
  go_enter Tryz.func52, Tryz.ntmps52
  go_wp2
  go_ret
  exact ⟨rfl, rfl⟩

theorem check_no (key at' : Int) (w : World) (h : keyB key at' = false) :
    Calls Tryz.prog 52 #[.int .i64 key, .int .i64 at'] w fun e w' => e = .returned (.int .i64 3) ∧ w' = w := by
  have h' := keyB_false h
  clear h
  by_cases h0 : key < 0
  · clear h'
    go_enter Tryz.func52, Tryz.ntmps52
    go_wp2
    go_ret
    exact ⟨rfl, rfl⟩
  · by_cases h1 : 1000 < key
    · clear h'
      go_enter Tryz.func52, Tryz.ntmps52
      go_wp2
      go_ret
      exact ⟨rfl, rfl⟩
    · by_cases h2 : at' < 0
      · clear h'
        go_enter Tryz.func52, Tryz.ntmps52
        go_wp2
        go_ret
        exact ⟨rfl, rfl⟩
      · have h3 : 256 ≤ at' := by omega
        clear h'
        go_enter Tryz.func52, Tryz.ntmps52
        go_wp2
        go_ret
        exact ⟨rfl, rfl⟩

/-- WHAT A SLICE OF BYTES HOLDS: n bytes, the numbers l; where there is one, it lies in a block that is there. -/
def BytesAt (w : World) (a : Option Addr) (n : Nat) (l : List Int) : Prop :=
  l.length = n ∧ (∀ x ∈ l, 0 ≤ x ∧ x < 256) ∧ (0 < n → ∃ b off, a = some ⟨b, off, none⟩ ∧ b < w.heap.size ∧ ∀ i, i < n → w.cell? ⟨b, off + i, none⟩ = some (.int .u8 (l.getD i 0)))

theorem BytesAt.below {w w' : World} {a : Option Addr} {n : Nat} {l : List Int} (h : BytesAt w a n l) (hb : Below w.heap.size w w') : BytesAt w' a n l := by
  refine ⟨h.1, h.2.1, fun hn => ?_⟩
  obtain ⟨b, off, rfl, hlt, hc⟩ := h.2.2 hn
  exact ⟨b, off, rfl, Nat.lt_of_lt_of_le hlt hb.size, fun i hi => (hb.cell (p := ⟨b, off + i, none⟩) hlt).trans (hc i hi)⟩

theorem BytesAt.bd {w : World} {a : Option Addr} {n : Nat} {l : List Int} (h : BytesAt w a n l) {i : Nat} (hi : i < n) : 0 ≤ l.getD i 0 ∧ l.getD i 0 < 256 := by
  have hl : i < l.length := by rw [h.1]; exact hi
  have e : l.getD i 0 = l[i] := by simp [List.getD, hl]
  rw [e]
  exact h.2.1 _ (List.getElem_mem hl)

end Go.Proofs.YtihkljfcplfldaaGreat

namespace Go.Proofs.YtihkljfcplfldaaGreat
open Go.RowKit

theorem made_bytes (n : Nat) : (madeCells (Value.cells (.int .u8 0)) (n * 1)).toList = (List.replicate n (0 : Int)).map (Value.int .u8) := by
  apply List.ext_getElem
  · simp [madeCells]
  · intro i h1 h2
    simp [madeCells, Value.cells, Nat.mod_one]

/-- what holds of the call's own memory after k rounds: the stream's number, the row -/
def Inv (f : Int → Int → Int) (x : Int) (l : List Int) (B n k : Nat) (w wr : World) : Prop :=
  wr.heap[B]? = some (.cells #[.int .i64 (xk x k)] 3 (0, 0)) ∧
  wr.ownsRow (B + 1) 5 1 (.slice (some ⟨B + 1, 0, none⟩) n n) n ((part f x l n k).map (Value.int .u8)) ∧ Below B w wr

theorem Inv.start {f : Int → Int → Int} {x : Int} {l : List Int} {n : Nat} {w w2 : World}
    (hown : w2.ownsRow (w.heap.size + 1) 5 1 (.slice (some ⟨w.heap.size + 1, 0, none⟩) n n) n (madeCells (Value.cells (.int .u8 0)) (n * 1)).toList)
    (hgr : (w.alloc (.cells #[.int .i64 x] 3)).grownBy w2 none) : Inv f x l w.heap.size n 0 w w2 := by
  refine ⟨?_, ?_, ((Below.refl _ _).alloc (Nat.le_refl _) _).grown hgr (by simp) (by simp)⟩
  · rw [hgr.block w.heap.size (by simp) (by simp)]
    exact heap_alloc_new w _
  · rw [part_zero, ← made_bytes]; exact hown

theorem Inv.step {f : Int → Int → Int} {x : Int} {l : List Int} {B n k : Nat} {w wr : World} (h : Inv f x l B n k w wr) :
    Inv f x l B n (k + 1) w ((wr.setCell ⟨B, 0, none⟩ (.int .i64 (nxt (xk x k)))).setCell ⟨B + 1, k, none⟩ (.int .u8 (f (l.getD k 0) (outb (nxt (xk x k)))))) := by
  obtain ⟨h1, h2, h3⟩ := h
  refine ⟨?_, ?_, (h3.setCell (Nat.le_refl _) _).setCell (by simp) _⟩
  · rw [Below.heap_setCell _ _ _ _ (by simp)]
    exact one_setCell h1
  · have := ((ownsRow_setCell_below h2 (a := ⟨B, 0, none⟩) (by simp) (.int .i64 (nxt (xk x k)))).stored k (.int .u8 (f (l.getD k 0) (outb (nxt (xk x k)))))).1
    rw [← part_succ, List.map_set]
    exact this

set_option maxHeartbeats 1000000 in
set_option maxRecDepth 100000 in
theorem turnAdd_ok (key at' : Int) (a : Option Addr) (n c : Nat) (l : List Int) (w : World) (hk : keyB key at' = true) (hn : n ≤ 256) (h : BytesAt w a n l) :
    Calls Tryz.prog 176 #[.int .i64 key, .int .i64 at', .slice a n c, .func (.func 223) #[] #[]] w fun e w' =>
      ∃ g, e = .returned (.tuple #[.slice (some ⟨g, 0, none⟩) n n, .int .i64 0]) ∧ w'.ownsRow w.heap.size 5 1 (.slice (some ⟨g, 0, none⟩) n n) n ((mixed add8 (start key at') l n).map (Value.int .u8)) ∧ Below w.heap.size w w' := by
  obtain ⟨i0, hi, hz0, hz1, hz2⟩ := info_parts Tryz.infoByte
  obtain ⟨k0, k1, k2, k3⟩ := keyB_true hk
  go_enter Tryz.func176, Tryz.ntmps176
  go_wp2_with fail
  refine (check_ok key at' _ hk).mono ?_
  rintro e w ⟨rfl, rfl⟩
  go_wp2_with fail
  refine (stream_any key at' _ k0 k1 k2 k3).mono ?_
  rintro e w1 ⟨rfl, rfl⟩
  go_wp2_with (at_make; refine wpList_make_full _ rfl (.tmp 28) (.tmp 28) 28 rfl (w.heap.size + 1) 5 i0 (.int .u8 0) 1 Tryz.underlying28 hi hz0 hz1 .i64 .i64 n n n rfl rfl rfl rfl (by rw [hz2]; omega) (by unfold maxLen; omega) (by simp) ?_; intro w2 hown hgr)
  have hx := start_bd key at'
  go_loopw [32] (fun i wr => ∃ k : Nat, k ≤ n ∧ i = .int .i64 k ∧ Inv add8 (start key at') l w.heap.size n k w wr) (fun i _ => n - (Go.RowKit.intOf i).toNat)
  case atStart => exact ⟨0, Nat.zero_le _, rfl, Inv.start (by simpa using hown) hgr⟩
  case round =>
    clear hown hgr
    obtain ⟨k, hkn, rfl, hinv⟩ := hrel
    by_cases hlt : k < n
    · obtain ⟨b, off, rfl, hb, hc⟩ := h.2.2 (by omega)
      have hck : wr.cell? ⟨b, off + k, none⟩ = some (.int .u8 (l.getD k 0)) := (hinv.2.2.cell (by exact hb)).trans (hc k hlt)
      have hxc := cell_of_one hinv.1
      have hxf := free_of_one hinv.1
      have hxb := xk_bd (start key at') hx.1 hx.2 k
      have hob := outb_bd (nxt (xk (start key at') k))
      have hoc : wr.cell? ⟨w.heap.size + 1, k, none⟩ = some (.int .u8 ((part add8 (start key at') l n k).getD k 0)) := by
        rw [hinv.2.1.cellAt k (by omega)]
        simp [part, hlt]
      have hof := hinv.2.1.frozenAt k
      have hlk : 0 ≤ l.getD k 0 ∧ l.getD k 0 < 256 := h.bd hlt
      have hstep := hid hinv.step
      clear hinv hc h hx
      generalize l.getD k 0 = lk at *
      generalize xk (start key at') k = xx at *
      generalize (part add8 (start key at') l n k).getD k 0 = old at *
      go_wp2_with fail
      refine (next_any w.heap.size xx wr hxb.1 hxb.2 hxc hxf).mono ?_
      rintro e w3 ⟨rfl, rfl⟩
      have hoc3 : (wr.setCell ⟨w.heap.size, 0, none⟩ (.int .i64 (nxt xx))).cell? ⟨w.heap.size + 1, k, none⟩ = some (.int .u8 old) := by rw [cell_past_set _ _ _ _ (by simp)]; exact hoc
      have hof3 : (wr.setCell ⟨w.heap.size, 0, none⟩ (.int .i64 (nxt xx))).frozen? ⟨w.heap.size + 1, k, none⟩ = false := by rw [frozen_past_set _ _ _ _ (by simp)]; exact hof
      generalize outb (nxt xx) = ob at *
      generalize nxt xx = nx at *
      generalize wr.setCell ⟨w.heap.size, 0, none⟩ (.int .i64 nx) = w4 at *
      go_wp2_with fail
      refine (add_any lk ob w4 hlk.1 hlk.2 hob.1 hob.2).mono ?_
      rintro e w4 ⟨rfl, rfl⟩
      go_wp2_with fail
      go_roundw
      case rel => exact ⟨k + 1, by omega, by go_num, hstep.out⟩
      case measure => simp [Go.RowKit.intOf]; omega
    · have hkk : k = n := by omega
      subst hkk
      clear h hx
      go_wp2
      go_ret2
      exact ⟨w.heap.size + 1, rfl, by rw [← part_all]; exact ownsRow_base (by omega) hinv.2.1, hinv.2.2⟩

set_option maxHeartbeats 1000000 in
set_option maxRecDepth 100000 in
theorem turnSub_ok (key at' : Int) (a : Option Addr) (n c : Nat) (l : List Int) (w : World) (hk : keyB key at' = true) (hn : n ≤ 256) (h : BytesAt w a n l) :
    Calls Tryz.prog 176 #[.int .i64 key, .int .i64 at', .slice a n c, .func (.func 177) #[] #[]] w fun e w' =>
      ∃ g, e = .returned (.tuple #[.slice (some ⟨g, 0, none⟩) n n, .int .i64 0]) ∧ w'.ownsRow w.heap.size 5 1 (.slice (some ⟨g, 0, none⟩) n n) n ((mixed sub8 (start key at') l n).map (Value.int .u8)) ∧ Below w.heap.size w w' := by
  obtain ⟨i0, hi, hz0, hz1, hz2⟩ := info_parts Tryz.infoByte
  obtain ⟨k0, k1, k2, k3⟩ := keyB_true hk
  go_enter Tryz.func176, Tryz.ntmps176
  go_wp2_with fail
  refine (check_ok key at' _ hk).mono ?_
  rintro e w ⟨rfl, rfl⟩
  go_wp2_with fail
  refine (stream_any key at' _ k0 k1 k2 k3).mono ?_
  rintro e w1 ⟨rfl, rfl⟩
  go_wp2_with (at_make; refine wpList_make_full _ rfl (.tmp 28) (.tmp 28) 28 rfl (w.heap.size + 1) 5 i0 (.int .u8 0) 1 Tryz.underlying28 hi hz0 hz1 .i64 .i64 n n n rfl rfl rfl rfl (by rw [hz2]; omega) (by unfold maxLen; omega) (by simp) ?_; intro w2 hown hgr)
  have hx := start_bd key at'
  go_loopw [32] (fun i wr => ∃ k : Nat, k ≤ n ∧ i = .int .i64 k ∧ Inv sub8 (start key at') l w.heap.size n k w wr) (fun i _ => n - (Go.RowKit.intOf i).toNat)
  case atStart => exact ⟨0, Nat.zero_le _, rfl, Inv.start (by simpa using hown) hgr⟩
  case round =>
    clear hown hgr
    obtain ⟨k, hkn, rfl, hinv⟩ := hrel
    by_cases hlt : k < n
    · obtain ⟨b, off, rfl, hb, hc⟩ := h.2.2 (by omega)
      have hck : wr.cell? ⟨b, off + k, none⟩ = some (.int .u8 (l.getD k 0)) := (hinv.2.2.cell (by exact hb)).trans (hc k hlt)
      have hxc := cell_of_one hinv.1
      have hxf := free_of_one hinv.1
      have hxb := xk_bd (start key at') hx.1 hx.2 k
      have hob := outb_bd (nxt (xk (start key at') k))
      have hoc : wr.cell? ⟨w.heap.size + 1, k, none⟩ = some (.int .u8 ((part sub8 (start key at') l n k).getD k 0)) := by
        rw [hinv.2.1.cellAt k (by omega)]
        simp [part, hlt]
      have hof := hinv.2.1.frozenAt k
      have hlk : 0 ≤ l.getD k 0 ∧ l.getD k 0 < 256 := h.bd hlt
      have hstep := hid hinv.step
      clear hinv hc h hx
      generalize l.getD k 0 = lk at *
      generalize xk (start key at') k = xx at *
      generalize (part sub8 (start key at') l n k).getD k 0 = old at *
      go_wp2_with fail
      refine (next_any w.heap.size xx wr hxb.1 hxb.2 hxc hxf).mono ?_
      rintro e w3 ⟨rfl, rfl⟩
      have hoc3 : (wr.setCell ⟨w.heap.size, 0, none⟩ (.int .i64 (nxt xx))).cell? ⟨w.heap.size + 1, k, none⟩ = some (.int .u8 old) := by rw [cell_past_set _ _ _ _ (by simp)]; exact hoc
      have hof3 : (wr.setCell ⟨w.heap.size, 0, none⟩ (.int .i64 (nxt xx))).frozen? ⟨w.heap.size + 1, k, none⟩ = false := by rw [frozen_past_set _ _ _ _ (by simp)]; exact hof
      generalize outb (nxt xx) = ob at *
      generalize nxt xx = nx at *
      generalize wr.setCell ⟨w.heap.size, 0, none⟩ (.int .i64 nx) = w4 at *
      go_wp2_with fail
      refine (sub_any lk ob w4 hlk.1 hlk.2 hob.1 hob.2).mono ?_
      rintro e w4 ⟨rfl, rfl⟩
      go_wp2_with fail
      go_roundw
      case rel => exact ⟨k + 1, by omega, by go_num, hstep.out⟩
      case measure => simp [Go.RowKit.intOf]; omega
    · have hkk : k = n := by omega
      subst hkk
      clear h hx
      go_wp2
      go_ret2
      exact ⟨w.heap.size + 1, rfl, by rw [← part_all]; exact ownsRow_base (by omega) hinv.2.1, hinv.2.2⟩

end Go.Proofs.YtihkljfcplfldaaGreat

namespace Go.Proofs.YtihkljfcplfldaaGreat
open Go.RowKit

theorem bytesAt_own {B : Nat} {w : World} {g n : Nat} {l : List Int} (hl : ∀ x ∈ l, 0 ≤ x ∧ x < 256) (h : w.ownsRow B 5 1 (.slice (some ⟨g, 0, none⟩) n n) n (l.map (Value.int .u8))) : BytesAt w (some ⟨g, 0, none⟩) n l := by
  have hn : l.length = n := by have := h.1; simpa using this
  refine ⟨hn, hl, fun hp => ⟨g, 0, rfl, (h.lt g rfl).2, fun i hi => ?_⟩⟩
  rw [Nat.zero_add, h.cellAt i (by omega)]
  simp [hn, hi]

theorem add8_bd (a b : Int) : 0 ≤ add8 a b ∧ add8 a b < 256 := by unfold add8; omega
theorem sub8_bd (a b : Int) : 0 ≤ sub8 a b ∧ sub8 a b < 256 := by unfold sub8; omega
theorem mixed_bd (f : Int → Int → Int) (hf : ∀ a b, 0 ≤ f a b ∧ f a b < 256) (x : Int) (l : List Int) (n : Nat) : ∀ y ∈ mixed f x l n, 0 ≤ y ∧ y < 256 := by
  intro y hy
  simp only [mixed, List.mem_map] at hy
  obtain ⟨i, _, rfl⟩ := hy
  exact hf _ _

/-- what Seal makes of l -/
def sealL (key at' : Int) (l : List Int) : List Int := mixed add8 (start key at') l l.length
/-- what Open makes of l -/
def openL (key at' : Int) (l : List Int) : List Int := mixed sub8 (start key at') l l.length
theorem sealL_length (key at' : Int) (l : List Int) : (sealL key at' l).length = l.length := mixed_length _ _ _ _
theorem openL_length (key at' : Int) (l : List Int) : (openL key at' l).length = l.length := mixed_length _ _ _ _

theorem seal_ok (key at' : Int) (a : Option Addr) (n c : Nat) (l : List Int) (w : World) (hk : keyB key at' = true) (hn : n ≤ 256) (h : BytesAt w a n l) :
    Calls Tryz.prog 214 #[.int .i64 key, .int .i64 at', .slice a n c] w fun e w' =>
      ∃ g, e = .returned (.tuple #[.slice (some ⟨g, 0, none⟩) n n, .int .i64 0]) ∧ BytesAt w' (some ⟨g, 0, none⟩) n (sealL key at' l) ∧ Below w.heap.size w w' := by
  have hmf : ∀ (fn : Fn) (first cap : Array Value) (w : World), (Instr.makeFunc fn first cap).run Tryz.prog w = .ok (.func fn first cap) w := fun _ _ _ _ => rfl
  go_enter Tryz.func214, Tryz.ntmps214
  go_wp2_with fail
  refine (turnAdd_ok key at' a n c l _ hk hn h).mono ?_
  rintro e w1 ⟨g, rfl, hown, hbel⟩
  have hB := bytesAt_own (mixed_bd add8 add8_bd _ _ _) hown
  clear hown
  go_wp2
  go_ret2
  exact ⟨g, rfl, by rw [sealL, h.1]; exact hB, hbel⟩

theorem open_ok (key at' : Int) (a : Option Addr) (n c : Nat) (l : List Int) (w : World) (hk : keyB key at' = true) (hn : n ≤ 256) (h : BytesAt w a n l) :
    Calls Tryz.prog 155 #[.int .i64 key, .int .i64 at', .slice a n c] w fun e w' =>
      ∃ g, e = .returned (.tuple #[.slice (some ⟨g, 0, none⟩) n n, .int .i64 0]) ∧ BytesAt w' (some ⟨g, 0, none⟩) n (openL key at' l) ∧ Below w.heap.size w w' := by
  have hmf : ∀ (fn : Fn) (first cap : Array Value) (w : World), (Instr.makeFunc fn first cap).run Tryz.prog w = .ok (.func fn first cap) w := fun _ _ _ _ => rfl
  go_enter Tryz.func155, Tryz.ntmps155
  go_wp2_with fail
  refine (turnSub_ok key at' a n c l _ hk hn h).mono ?_
  rintro e w1 ⟨g, rfl, hown, hbel⟩
  have hB := bytesAt_own (mixed_bd sub8 sub8_bd _ _ _) hown
  clear hown
  go_wp2
  go_ret2
  exact ⟨g, rfl, by rw [openL, h.1]; exact hB, hbel⟩

end Go.Proofs.YtihkljfcplfldaaGreat
