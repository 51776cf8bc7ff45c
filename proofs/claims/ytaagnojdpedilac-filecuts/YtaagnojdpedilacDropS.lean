/-
  The contract of store.Drop. Nothing here is trusted.
-/
import Derived.Test.YtaagnojdpedilacBlocks6
set_option linter.unusedVariables false
namespace Go.Proofs.Ytaagnojdpedilac
open Go.RowKit

theorem Form.few2 {n : Nat} {B : Nat → Blk} {b : Blk} (h : Form n B b) : b.bytes.length ≤ 4 := by
  rcases h with ⟨_, _, _, h⟩ | ⟨_, ⟨_, _, h⟩ | ⟨_, _, h, _⟩⟩
  · simp [h]
  · omega
  · simp [h]

theorem cellsAt_alloc3 (w : World) (o q : Obj) (cs : Array Value) (t : TypeId) : CellsAt (((w.alloc o).alloc q).alloc (.cells cs t)) (w.heap.size + 2) cs t := by
  have := cellsAt_alloc2 (w.alloc o) q cs t
  simpa using this

/-- what Drop refuses not -/
def Droppable (n : Nat) (B : Nat → Blk) (a : Int) : Prop := Right n B ∧ There n B a ∧ (B (a - 1).toNat).refs ≠ (among n B a : Int)

/-- what store.Drop answers -/
def RetDrop (base : Nat) (e : Ending) (w : World) (n : Nat) (B : Nat → Blk) (a : Int) : Prop :=
  (∃ e', e = .returned (.tuple #[.agg #[.slice none 0 0], .int .i64 e']) ∧ e' ≠ 0 ∧ ¬ Droppable n B a) ∨ (Droppable n B a ∧ ∃ C, RetS base e w n C ∧ Right n C ∧ Fell n B C [a])

theorem doDrop_any (p : Addr) (g n ab : Nat) (B : Nat → Blk) (a : Int) (w : World) (h : OwnPtr w p g n B) (ha : w.cell? ⟨ab, 0, none⟩ = some (.int .i64 a)) :
    Calls Try.prog 67 #[.pointer (some p), .pointer (some ⟨ab, 0, none⟩)] w fun e w' => Dropped e w p g n B a w' ∧ Out g w w' := by
  go_enter Try.func67, Try.ntmps67
  go_wp2_with fail
  refine (drop_any p g n B a _ h).mono ?_
  rintro e w1 ⟨hD, hO⟩
  replace hO := hid hO
  rcases hD with ⟨e', rfl, he, hn⟩ | ⟨rfl, hy, C, hC⟩
  · replace hn := hid hn
    go_wp2_with fail
    go_ret
    exact ⟨.inl ⟨e', rfl, he, hn.out⟩, hO.out⟩
  · replace hy := hid hy
    replace hC := hid hC
    go_wp2_with fail
    go_ret
    exact ⟨.inr ⟨rfl, hy.out, C, hC.out⟩, hO.out⟩

set_option maxHeartbeats 2000000 in
set_option maxRecDepth 100000 in
theorem changeDrop_any (a : Option Addr) (n c ab : Nat) (B : Nat → Blk) (x : Int) (w : World) (h : StoreAt w a n B) (hab : ab < w.heap.size) (ha : w.cell? ⟨ab, 0, none⟩ = some (.int .i64 x)) :
    Calls Try.prog 66 #[.agg #[.slice a n c], .func (.func 67) #[] #[.pointer (some ⟨ab, 0, none⟩)]] w fun e w' => RetDrop w.heap.size e w' n B x ∧ Below w.heap.size w w' := by
  have b0 := (below_alloc w (.cells #[.slice a n c] 24)).alloc (by simp) (.cells #[.slice none 0 0] 24)
  have k1 : CellsAt _ w.heap.size #[.slice a n c] 24 := (cellsAt_alloc w _ _).below (below_alloc _ (.cells #[.slice none 0 0] 24))
  have k2 := cellsAt_alloc2 w (.cells #[.slice a n c] 24) #[.slice none 0 0] 24
  have hsz : w.heap.size + 2 = ((w.alloc (.cells #[.slice a n c] 24)).alloc (.cells #[.slice none 0 0] 24)).heap.size := by simp
  replace h := h.below b0
  replace ha := (b0.cell (p := ⟨ab, 0, none⟩) hab).trans ha
  replace k1 := hid k1
  replace k2 := hid k2
  replace hsz := hid hsz
  go_enter Try.func66, Try.ntmps66
  go_wp2_with fail
  generalize (w.alloc (.cells #[.slice a n c] 24)).alloc (.cells #[.slice none 0 0] 24) = w0 at *
  refine (storeCheck_any a n c B w0 h).mono ?_
  rintro e w1 ⟨⟨e', rfl, he⟩, b1⟩
  replace he := hid he
  replace h := h.below b1
  replace ha := (b1.cell (p := ⟨ab, 0, none⟩) (by have := hsz.out; simp; omega)).trans ha
  replace k1 := k1.out.below b1
  replace k2 := k2.out.below b1
  have hsz1 : w.heap.size + 2 ≤ w1.heap.size := by have := hsz.out; have := b1.size; omega
  replace b1 := Below.tr b0 b1
  clear b0 hsz
  have s1 := k1.cell 0
  have s2 := k2.cell 0
  have f2 := k2.frozen 0
  simp at s1 s2
  by_cases h0 : e' = 0
  · have h0' : (e' == 0) = true := by simp [h0]
    have hR := he.out.1 h0
    have hF4 : ∀ i, i < n → (B i).kids.length ≤ 4 ∧ (B i).bytes.length ≤ 4 := fun i hi => ⟨(hR.one i hi).few, (hR.one i hi).few2⟩
    have hn := hR.small
    replace hR := hid hR
    replace k1 := hid k1
    replace k2 := hid k2
    go_wp2_with fail
    refine (copy_any ⟨w.heap.size, 0, none⟩ a n c B w1 ⟨by simp; omega, s1, h⟩ hn hF4).mono ?_
    rintro e w2 ⟨b2, g, rfl, hg, hO⟩
    replace k2 := hid (k2.out.below b2)
    replace ha := (b2.cell (p := ⟨ab, 0, none⟩) (by simp; omega)).trans ha
    have hsz2 := b2.size
    replace b2 := Below.tr b1 b2
    clear b1 s1 s2 f2 k1 hF4 h
    replace hO := hid hO
    go_wp2_with fail
    have b3 := below_alloc w2 (.cells #[.slice (some ⟨g, 0, none⟩) n n] 24)
    have k3 := cellsAt_alloc w2 #[.slice (some ⟨g, 0, none⟩) n n] 24
    have hgl := hO.out.lt
    have hO3 := hO.out.below b3
    replace k2 := k2.out.below b3
    replace ha := (b3.cell (p := ⟨ab, 0, none⟩) (by simp; omega)).trans ha
    replace b3 := Below.tr b2 b3
    have hsz3 : w2.heap.size < (w2.alloc (.cells #[.slice (some ⟨g, 0, none⟩) n n] 24)).heap.size := by simp
    clear hO b2
    generalize w2.alloc (.cells #[.slice (some ⟨g, 0, none⟩) n n] 24) = w3 at *
    have e3 := k3.cell 0
    simp at e3
    have hP : OwnPtr w3 ⟨w2.heap.size, 0, none⟩ g n B := ⟨hsz3, by simp; omega, e3, hO3⟩
    refine (doDrop_any ⟨w2.heap.size, 0, none⟩ g n ab B x w3 hP ha).mono ?_
    rintro e w4 ⟨hD, hOut⟩
    have c2 := (hOut.cell (p := ⟨w.heap.size + 1, 0, none⟩) (by simp; omega) (by simp; omega)).trans (k2.cell 0)
    have f2 : w4.frozen? ⟨w.heap.size + 1, 0, none⟩ = false := (World.frozen?_of_block (w := w3) (hOut.block (w.heap.size + 1) (by omega) (by omega))).trans (k2.frozen 0)
    have k4 : CellsAt w4 (w.heap.size + 1) #[.slice none 0 0] 24 := by
      unfold CellsAt
      rw [hOut.block _ (by omega) (by omega)]
      exact k2
    have b4 : Below w.heap.size w w4 := b3.trans (hOut.below (by omega) (by omega))
    simp at c2
    replace k4 := hid k4
    clear k2 k3 hP hO3 e3 b3 ha hOut
    rcases hD with ⟨e', rfl, he', hno⟩ | ⟨rfl, hy, C, hC, hCC⟩
    · have he2 : (e' == 0) = false := by simp [he']
      replace hno := hid hno
      go_wp2_with fail
      refine bodyPost_ret (v := .tuple #[.agg #[.slice none 0 0], .int .i64 e']) (by rw [results_cell_tmp rfl]; go_simp) rfl ⟨.inl ⟨e', rfl, he', hno.out⟩, b4.setCell (by simp) _⟩
    · have e4 := hC.cell
      have kk := Kept.setCell (g := w.heap.size + 1) (Kept.refl _ w4) (p := ⟨w.heap.size + 1, 0, none⟩) rfl (.slice (some ⟨g, 0, none⟩) n n)
      have hSt : g < (w4.setCell ⟨w.heap.size + 1, 0, none⟩ (.slice (some ⟨g, 0, none⟩) n n)).heap.size ∧ Blocks (fun b => w.heap.size ≤ b) (w4.setCell ⟨w.heap.size + 1, 0, none⟩ (.slice (some ⟨g, 0, none⟩) n n)) g 0 n C :=
        ⟨by simpa using hC.own.lt, (hC.own.blocks.kept (by omega) (fun b h => by omega) kk).weaken (fun b _ h => by omega)⟩
      replace hSt := hid hSt
      replace hC := hid hC
      replace hCC := hid hCC
      replace hy := hid hy
      clear kk
      go_wp2_with fail
      refine bodyPost_ret (v := .tuple #[.agg #[.slice (some ⟨g, 0, none⟩) n n], .int .i64 0]) (by rw [results_cell_tmp rfl]; go_simp) rfl ⟨.inr ⟨hy.out, C, ⟨g, n, rfl, by omega, hSt.out⟩, hCC.out⟩, b4.setCell (by simp) _⟩
  · have h0' : (e' == 0) = false := by simp [h0]
    go_wp2_with fail
    refine bodyPost_ret (v := .tuple #[.agg #[.slice none 0 0], .int .i64 e']) (by rw [results_cell_tmp rfl]; go_simp) rfl ⟨.inl ⟨e', rfl, h0, fun f => h0 (he.out.2 f.1)⟩, b1.setCell (by simp) _⟩

set_option maxHeartbeats 1000000 in
set_option maxRecDepth 100000 in
theorem storeDrop_any (a : Option Addr) (n c : Nat) (B : Nat → Blk) (x : Int) (w : World) (h : StoreAt w a n B) :
    Calls Try.prog 33 #[.agg #[.slice a n c], .int .i64 x] w fun e w' => RetDrop w.heap.size e w' n B x ∧ Below w.heap.size w w' := by
  have hmf : ∀ (fn : Fn) (first cap : Array Value) (w : World), (Instr.makeFunc fn first cap).run Try.prog w = .ok (.func fn first cap) w := fun _ _ _ _ => rfl
  have b0 := ((below_alloc w (.cells #[.slice a n c] 24)).alloc (by simp) (.cells #[.int .i64 x] 3)).alloc (by simp; omega) (.cells #[.slice none 0 0] 24)
  have k1 : CellsAt _ (w.heap.size + 1) #[.int .i64 x] 3 := (cellsAt_alloc2 w (.cells #[.slice a n c] 24) _ _).below (below_alloc _ (.cells #[.slice none 0 0] 24))
  have k2 : CellsAt _ (w.heap.size + 2) #[.slice none 0 0] 24 := cellsAt_alloc3 w (.cells #[.slice a n c] 24) (.cells #[.int .i64 x] 3) #[.slice none 0 0] 24
  have hsz : w.heap.size + 3 = (((w.alloc (.cells #[.slice a n c] 24)).alloc (.cells #[.int .i64 x] 3)).alloc (.cells #[.slice none 0 0] 24)).heap.size := by simp
  replace h := h.below b0
  replace hsz := hid hsz
  replace k1 := hid k1
  replace k2 := hid k2
  go_enter Try.func33, Try.ntmps33
  go_wp2_with fail
  generalize ((w.alloc (.cells #[.slice a n c] 24)).alloc (.cells #[.int .i64 x] 3)).alloc (.cells #[.slice none 0 0] 24) = w0 at *
  have e1 := k1.out.cell 0
  simp at e1
  refine (changeDrop_any a n c (w.heap.size + 1) B x w0 h k1.out.lt e1).mono ?_
  rintro e w1 ⟨hD, b1⟩
  replace k2 := k2.out.below b1
  replace b1 := Below.tr b0 b1
  have s2 := k2.cell 0
  have f2 := k2.frozen 0
  simp at s2
  clear b0 k1 e1 h
  rcases hD with ⟨e', rfl, he', hno⟩ | ⟨hy, C, ⟨g, gc, rfl, hg, hgl, hSt⟩, hCC⟩
  · replace hno := hid hno
    go_wp2_with fail
    refine bodyPost_ret (v := .tuple #[.agg #[.slice none 0 0], .int .i64 e']) (by rw [results_cell_tmp rfl]; go_simp) rfl ⟨.inl ⟨e', rfl, he', hno.out⟩, b1.setCell (by simp; omega) _⟩
  · have hs3 := hsz.out
    have kk := Kept.setCell (g := w.heap.size + 2) (Kept.refl _ w1) (p := ⟨w.heap.size + 2, 0, none⟩) rfl (.slice (some ⟨g, 0, none⟩) n gc)
    have hSt2 : g < (w1.setCell ⟨w.heap.size + 2, 0, none⟩ (.slice (some ⟨g, 0, none⟩) n gc)).heap.size ∧ Blocks (fun b => w.heap.size ≤ b) (w1.setCell ⟨w.heap.size + 2, 0, none⟩ (.slice (some ⟨g, 0, none⟩) n gc)) g 0 n C :=
      ⟨by simpa using hgl, (hSt.kept (by omega) (fun b h => by omega) kk).weaken (fun b _ h => by omega)⟩
    clear kk
    replace hSt2 := hid hSt2
    replace hCC := hid hCC
    replace hy := hid hy
    replace hSt := hid hSt
    go_wp2_with fail
    refine bodyPost_ret (v := .tuple #[.agg #[.slice (some ⟨g, 0, none⟩) n gc], .int .i64 0]) (by rw [results_cell_tmp rfl]; go_simp) rfl ⟨.inr ⟨hy.out, C, ⟨g, gc, rfl, by omega, hSt2.out⟩, hCC.out⟩, b1.setCell (by simp; omega) _⟩

end Go.Proofs.Ytaagnojdpedilac
