/-
  Contracts of store.Keep, store.Same, of the law's crowded, of bytes.Equal. Nothing here is trusted.
-/
import Derived.Test.YtaagnojdpedilabStored
import Derived.Laws.BytesArg
set_option linter.unusedVariables false
namespace Go.Proofs.Ytaagnojdpedilab
open Go.RowKit

/-- what Keep refuses not -/
def Keepable (n : Nat) (B : Nat → Blk) (a : Int) : Prop := Right n B ∧ There n B a
/-- the store with the block at a held once more -/
def keptB (B : Nat → Blk) (a : Int) : Nat → Blk := upd B (a - 1).toNat { B (a - 1).toNat with refs := (B (a - 1).toNat).refs + 1 }
/-- what Keep of one's own store answers -/
def Keeped (e : Ending) (w : World) (p : Addr) (g n : Nat) (B : Nat → Blk) (a : Int) (w' : World) : Prop :=
  (∃ e' : Int, e = .returned (.int .i64 e') ∧ e' ≠ 0 ∧ ¬ Keepable n B a) ∨ (e = .returned (.int .i64 0) ∧ Keepable n B a ∧ ∃ C, OwnPtr w' p g n C ∧ C = keptB B a)
/-- what store.Keep answers -/
def RetKeep (base : Nat) (e : Ending) (w : World) (n : Nat) (B : Nat → Blk) (a : Int) : Prop :=
  (∃ e', e = .returned (.tuple #[.agg #[.slice none 0 0], .int .i64 e']) ∧ e' ≠ 0 ∧ ¬ Keepable n B a) ∨ (Keepable n B a ∧ ∃ C, RetS base e w n C ∧ C = keptB B a)

set_option maxHeartbeats 1000000 in
set_option maxRecDepth 100000 in
theorem keep_any (p : Addr) (g n : Nat) (B : Nat → Blk) (a : Int) (w : World) (h : OwnPtr w p g n B) :
    Calls Try.prog 51 #[.pointer (some p), .int .i64 a] w fun e w' => Keeped e w p g n B a w' ∧ Out g w w' := by
  go_enter Try.func51, Try.ntmps51
  go_wp2_with fail
  refine (checkThere_any p _ n n B a w h.ptr).mono ?_
  rintro e w1 ⟨⟨e', rfl, he⟩, b1⟩
  replace h := h.below b1
  replace he := hid he
  by_cases h0 : e' = 0
  · have h0' : (e' == 0) = true := by simp [h0]
    obtain ⟨hR, ht⟩ := he.out.1 h0
    obtain ⟨i, rfl⟩ : ∃ i : Nat, a = (i : Int) + 1 := ⟨(a - 1).toNat, by have := ht.1; omega⟩
    have ei : ((i : Int) + 1 - 1).toNat = i := by omega
    have hi : i < n := by have := ht.2.1; omega
    have hn := hR.small
    have hbd := (hR.one i hi).bounds
    obtain ⟨ka, kn, kc, ba, bn, bc, hbk⟩ := h.own.cell hi
    have c0 := hbk.c0
    have f0 := h.own.free (i * 4) (by omega)
    have s1 := h.cell
    have J : Hid (∀ w', w' = w1.setCell ⟨g, i * 4, none⟩ (.int .i64 ((B i).refs + 1)) → OwnPtr w' p g n (keptB B ((i : Int) + 1)) ∧ Out g w w') := hid (by
      intro w' hw
      subst hw
      have kk := Kept.setCell (g := g) (Kept.refl _ w1) (p := ⟨g, i * 4, none⟩) rfl (.int .i64 ((B i).refs + 1))
      refine ⟨h.kept kk ?_, (Out.of_below b1).trans (Out.of_kept kk)⟩
      unfold keptB
      rw [ei]
      exact h.own.refs hi _ (by omega))
    replace hR := hid hR
    replace ht := hid ht
    clear hbk h
    generalize (B i).refs = rf at *
    go_wp2_with fail
    refine (at_own p g n n i _ hn s1 hi).mono ?_
    rintro e w2 ⟨rfl, rfl⟩
    go_wp2_with fail
    go_ret
    exact ⟨.inr ⟨rfl, ⟨hR.out, ht.out⟩, _, (J.out _ rfl).1, rfl⟩, (J.out _ rfl).2⟩
  · have h0' : (e' == 0) = false := by simp [h0]
    replace h := hid h
    go_wp2_with fail
    go_ret
    exact ⟨.inl ⟨e', rfl, h0, fun f => h0 (he.out.2 f)⟩, Out.of_below b1⟩

theorem doKeep_any (p : Addr) (g n ab : Nat) (B : Nat → Blk) (a : Int) (w : World) (h : OwnPtr w p g n B) (ha : w.cell? ⟨ab, 0, none⟩ = some (.int .i64 a)) :
    Calls Try.prog 50 #[.pointer (some p), .pointer (some ⟨ab, 0, none⟩)] w fun e w' => Keeped e w p g n B a w' ∧ Out g w w' := by
  go_enter Try.func50, Try.ntmps50
  go_wp2_with fail
  refine (keep_any p g n B a _ h).mono ?_
  rintro e w1 ⟨hD, hO⟩
  replace hO := hid hO
  rcases hD with ⟨e', rfl, he, hn⟩ | ⟨rfl, hy, C, hC⟩
  · replace hn := hid hn
    go_wp2_with fail
    go_ret
    exact ⟨.inl ⟨e', rfl, he, hn.out⟩, hO.out⟩
  · replace hy := hid hy
    replace hC := hid hC
    go_wp2_with fail
    go_ret
    exact ⟨.inr ⟨rfl, hy.out, C, hC.out⟩, hO.out⟩

set_option maxHeartbeats 2000000 in
set_option maxRecDepth 100000 in
theorem changeKeep_any (a : Option Addr) (n c ab : Nat) (B : Nat → Blk) (x : Int) (w : World) (h : StoreAt w a n B) (hab : ab < w.heap.size) (ha : w.cell? ⟨ab, 0, none⟩ = some (.int .i64 x)) :
    Calls Try.prog 41 #[.agg #[.slice a n c], .func (.func 50) #[] #[.pointer (some ⟨ab, 0, none⟩)]] w fun e w' => RetKeep w.heap.size e w' n B x ∧ Below w.heap.size w w' := by
  have b0 := (below_alloc w (.cells #[.slice a n c] 24)).alloc (by simp) (.cells #[.slice none 0 0] 24)
  have k1 : CellsAt _ w.heap.size #[.slice a n c] 24 := (cellsAt_alloc w _ _).below (below_alloc _ (.cells #[.slice none 0 0] 24))
  have k2 := cellsAt_alloc2 w (.cells #[.slice a n c] 24) #[.slice none 0 0] 24
  have hsz : w.heap.size + 2 = ((w.alloc (.cells #[.slice a n c] 24)).alloc (.cells #[.slice none 0 0] 24)).heap.size := by simp
  replace h := h.below b0
  replace ha := (b0.cell (p := ⟨ab, 0, none⟩) hab).trans ha
  replace k1 := hid k1
  replace k2 := hid k2
  replace hsz := hid hsz
  go_enter Try.func41, Try.ntmps41
  go_wp2_with fail
  generalize (w.alloc (.cells #[.slice a n c] 24)).alloc (.cells #[.slice none 0 0] 24) = w0 at *
  refine (storeCheck_any a n c B w0 h).mono ?_
  rintro e w1 ⟨⟨e', rfl, he⟩, b1⟩
  replace he := hid he
  replace h := h.below b1
  replace ha := (b1.cell (p := ⟨ab, 0, none⟩) (by have := hsz.out; simp; omega)).trans ha
  replace k1 := k1.out.below b1
  replace k2 := k2.out.below b1
  have hsz1 : w.heap.size + 2 ≤ w1.heap.size := by have := hsz.out; have := b1.size; omega
  replace b1 := Below.tr b0 b1
  clear b0 hsz
  have s1 := k1.cell 0
  have s2 := k2.cell 0
  have f2 := k2.frozen 0
  simp at s1 s2
  by_cases h0 : e' = 0
  · have h0' : (e' == 0) = true := by simp [h0]
    have hR := he.out.1 h0
    have hF4 : ∀ i, i < n → (B i).kids.length ≤ 4 ∧ (B i).bytes.length ≤ 4 := fun i hi => ⟨(hR.one i hi).few, (hR.one i hi).few2⟩
    have hn := hR.small
    replace hR := hid hR
    replace k1 := hid k1
    replace k2 := hid k2
    go_wp2_with fail
    refine (copy_any ⟨w.heap.size, 0, none⟩ a n c B w1 ⟨by simp; omega, s1, h⟩ hn hF4).mono ?_
    rintro e w2 ⟨b2, g, rfl, hg, hO⟩
    replace k2 := hid (k2.out.below b2)
    replace ha := (b2.cell (p := ⟨ab, 0, none⟩) (by simp; omega)).trans ha
    have hsz2 := b2.size
    replace b2 := Below.tr b1 b2
    clear b1 s1 s2 f2 k1 hF4 h
    replace hO := hid hO
    go_wp2_with fail
    have b3 := below_alloc w2 (.cells #[.slice (some ⟨g, 0, none⟩) n n] 24)
    have k3 := cellsAt_alloc w2 #[.slice (some ⟨g, 0, none⟩) n n] 24
    have hgl := hO.out.lt
    have hO3 := hO.out.below b3
    replace k2 := k2.out.below b3
    replace ha := (b3.cell (p := ⟨ab, 0, none⟩) (by simp; omega)).trans ha
    replace b3 := Below.tr b2 b3
    have hsz3 : w2.heap.size < (w2.alloc (.cells #[.slice (some ⟨g, 0, none⟩) n n] 24)).heap.size := by simp
    clear hO b2
    generalize w2.alloc (.cells #[.slice (some ⟨g, 0, none⟩) n n] 24) = w3 at *
    have e3 := k3.cell 0
    simp at e3
    have hP : OwnPtr w3 ⟨w2.heap.size, 0, none⟩ g n B := ⟨hsz3, by simp; omega, e3, hO3⟩
    refine (doKeep_any ⟨w2.heap.size, 0, none⟩ g n ab B x w3 hP ha).mono ?_
    rintro e w4 ⟨hD, hOut⟩
    have c2 := (hOut.cell (p := ⟨w.heap.size + 1, 0, none⟩) (by simp; omega) (by simp; omega)).trans (k2.cell 0)
    have f2 : w4.frozen? ⟨w.heap.size + 1, 0, none⟩ = false := (World.frozen?_of_block (w := w3) (hOut.block (w.heap.size + 1) (by omega) (by omega))).trans (k2.frozen 0)
    have k4 : CellsAt w4 (w.heap.size + 1) #[.slice none 0 0] 24 := by
      unfold CellsAt
      rw [hOut.block _ (by omega) (by omega)]
      exact k2
    have b4 : Below w.heap.size w w4 := b3.trans (hOut.below (by omega) (by omega))
    simp at c2
    replace k4 := hid k4
    clear k2 k3 hP hO3 e3 b3 ha hOut
    rcases hD with ⟨e', rfl, he', hno⟩ | ⟨rfl, hy, C, hC, hCC⟩
    · have he2 : (e' == 0) = false := by simp [he']
      replace hno := hid hno
      go_wp2_with fail
      refine bodyPost_ret (v := .tuple #[.agg #[.slice none 0 0], .int .i64 e']) (by rw [results_cell_tmp rfl]; go_simp) rfl ⟨.inl ⟨e', rfl, he', hno.out⟩, b4.setCell (by simp) _⟩
    · have e4 := hC.cell
      have kk := Kept.setCell (g := w.heap.size + 1) (Kept.refl _ w4) (p := ⟨w.heap.size + 1, 0, none⟩) rfl (.slice (some ⟨g, 0, none⟩) n n)
      have hSt : g < (w4.setCell ⟨w.heap.size + 1, 0, none⟩ (.slice (some ⟨g, 0, none⟩) n n)).heap.size ∧ Blocks (fun b => w.heap.size ≤ b) (w4.setCell ⟨w.heap.size + 1, 0, none⟩ (.slice (some ⟨g, 0, none⟩) n n)) g 0 n C :=
        ⟨by simpa using hC.own.lt, (hC.own.blocks.kept (by omega) (fun b h => by omega) kk).weaken (fun b _ h => by omega)⟩
      replace hSt := hid hSt
      replace hC := hid hC
      replace hCC := hid hCC
      replace hy := hid hy
      clear kk
      go_wp2_with fail
      refine bodyPost_ret (v := .tuple #[.agg #[.slice (some ⟨g, 0, none⟩) n n], .int .i64 0]) (by rw [results_cell_tmp rfl]; go_simp) rfl ⟨.inr ⟨hy.out, C, ⟨g, n, rfl, by omega, hSt.out⟩, hCC.out⟩, b4.setCell (by simp) _⟩
  · have h0' : (e' == 0) = false := by simp [h0]
    go_wp2_with fail
    refine bodyPost_ret (v := .tuple #[.agg #[.slice none 0 0], .int .i64 e']) (by rw [results_cell_tmp rfl]; go_simp) rfl ⟨.inl ⟨e', rfl, h0, fun f => h0 (he.out.2 f.1)⟩, b1.setCell (by simp) _⟩

set_option maxHeartbeats 1000000 in
set_option maxRecDepth 100000 in
theorem storeKeep_any (a : Option Addr) (n c : Nat) (B : Nat → Blk) (x : Int) (w : World) (h : StoreAt w a n B) :
    Calls Try.prog 15 #[.agg #[.slice a n c], .int .i64 x] w fun e w' => RetKeep w.heap.size e w' n B x ∧ Below w.heap.size w w' := by
  have hmf : ∀ (fn : Fn) (first cap : Array Value) (w : World), (Instr.makeFunc fn first cap).run Try.prog w = .ok (.func fn first cap) w := fun _ _ _ _ => rfl
  have b0 := ((below_alloc w (.cells #[.slice a n c] 24)).alloc (by simp) (.cells #[.int .i64 x] 3)).alloc (by simp; omega) (.cells #[.slice none 0 0] 24)
  have k1 : CellsAt _ (w.heap.size + 1) #[.int .i64 x] 3 := (cellsAt_alloc2 w (.cells #[.slice a n c] 24) _ _).below (below_alloc _ (.cells #[.slice none 0 0] 24))
  have k2 : CellsAt _ (w.heap.size + 2) #[.slice none 0 0] 24 := cellsAt_alloc3 w (.cells #[.slice a n c] 24) (.cells #[.int .i64 x] 3) #[.slice none 0 0] 24
  have hsz : w.heap.size + 3 = (((w.alloc (.cells #[.slice a n c] 24)).alloc (.cells #[.int .i64 x] 3)).alloc (.cells #[.slice none 0 0] 24)).heap.size := by simp
  replace h := h.below b0
  replace hsz := hid hsz
  replace k1 := hid k1
  replace k2 := hid k2
  go_enter Try.func15, Try.ntmps15
  go_wp2_with fail
  generalize ((w.alloc (.cells #[.slice a n c] 24)).alloc (.cells #[.int .i64 x] 3)).alloc (.cells #[.slice none 0 0] 24) = w0 at *
  have e1 := k1.out.cell 0
  simp at e1
  refine (changeKeep_any a n c (w.heap.size + 1) B x w0 h k1.out.lt e1).mono ?_
  rintro e w1 ⟨hD, b1⟩
  replace k2 := k2.out.below b1
  replace b1 := Below.tr b0 b1
  have s2 := k2.cell 0
  have f2 := k2.frozen 0
  simp at s2
  clear b0 k1 e1 h
  rcases hD with ⟨e', rfl, he', hno⟩ | ⟨hy, C, ⟨g, gc, rfl, hg, hgl, hSt⟩, hCC⟩
  · replace hno := hid hno
    go_wp2_with fail
    refine bodyPost_ret (v := .tuple #[.agg #[.slice none 0 0], .int .i64 e']) (by rw [results_cell_tmp rfl]; go_simp) rfl ⟨.inl ⟨e', rfl, he', hno.out⟩, b1.setCell (by simp; omega) _⟩
  · have hs3 := hsz.out
    have kk := Kept.setCell (g := w.heap.size + 2) (Kept.refl _ w1) (p := ⟨w.heap.size + 2, 0, none⟩) rfl (.slice (some ⟨g, 0, none⟩) n gc)
    have hSt2 : g < (w1.setCell ⟨w.heap.size + 2, 0, none⟩ (.slice (some ⟨g, 0, none⟩) n gc)).heap.size ∧ Blocks (fun b => w.heap.size ≤ b) (w1.setCell ⟨w.heap.size + 2, 0, none⟩ (.slice (some ⟨g, 0, none⟩) n gc)) g 0 n C :=
      ⟨by simpa using hgl, (hSt.kept (by omega) (fun b h => by omega) kk).weaken (fun b _ h => by omega)⟩
    clear kk
    replace hSt2 := hid hSt2
    replace hCC := hid hCC
    replace hy := hid hy
    replace hSt := hid hSt
    go_wp2_with fail
    refine bodyPost_ret (v := .tuple #[.agg #[.slice (some ⟨g, 0, none⟩) n gc], .int .i64 0]) (by rw [results_cell_tmp rfl]; go_simp) rfl ⟨.inr ⟨hy.out, C, ⟨g, gc, rfl, by omega, hSt2.out⟩, hCC.out⟩, b1.setCell (by simp; omega) _⟩

set_option maxHeartbeats 1000000 in
set_option maxRecDepth 100000 in
theorem equalBytes_same (a1 a2 : Option Addr) (n c d : Nat) (Q1 Q2 : Nat → Prop) (xs : List Int) (w : World) (hn : n ≤ 1000) (h1 : NumsAt Q1 .u8 w a1 n xs) (h2 : NumsAt Q2 .u8 w a2 n xs) :
    Calls Try.prog 48 #[.slice a1 n c, .slice a2 n d] w fun e w' => e = .returned (.bool true) ∧ ∃ q, w' = w.drewN q := by
  replace h1 := hid h1
  replace h2 := hid h2
  go_enter Try.func48, Try.ntmps48
  go_wp2
  go_loopw [13] (fun i wr => ∃ k q : Nat, k ≤ n ∧ i = .int .i64 k ∧ wr = w.drewN q) (fun i _ => n - (Go.RowKit.intOf i).toNat)
  case atStart => exact ⟨0, 0, Nat.zero_le _, rfl, rfl⟩
  case round =>
    obtain ⟨k, q, hk, rfl, rfl⟩ := hrel
    by_cases hlt : k < n
    · obtain ⟨b1, o1, rfl, _, _, hc1⟩ := h1.out.2.2 (by omega)
      obtain ⟨b2, o2, rfl, _, _, hc2⟩ := h2.out.2.2 (by omega)
      have g1 := hc1 k (by omega)
      have g2 := hc2 k (by omega)
      clear hc1 hc2 h1 h2
      generalize xs.getD k 0 = x at *
      go_wp2_with fail
      go_quiet (fail)
      go_wp2
      go_roundw
      case rel => exact ⟨k + 1, q + nq, by omega, by go_num, rfl⟩
      case measure => simp [Go.RowKit.intOf]; omega
    · have : k = n := by omega
      subst this
      clear h1 h2
      go_wp2
      go_ret
      exact ⟨rfl, q, rfl⟩

theorem run_string_of {Q : Nat → Prop} (w : World) {a : Option Addr} {n : Nat} {l : List Int} (c : Nat) (h : NumsAt Q .u8 w a n l) :
    (convert 26 9 (.slice a n c)).run Try.prog w = .ok (.string (strOfNums l)) w := by
  rcases Nat.eq_zero_or_pos n with hn | hn
  · subst hn
    obtain rfl : l = [] := List.eq_nil_of_length_eq_zero h.1
    rw [run_convert_bytes_string w 26 9 5 _ 0 c Try.underlying26 Try.underlying5 Try.underlying9]
    cases a <;> simp [Conv.bytesToString, loadCells]
    all_goals rfl
  · obtain ⟨b, off, rfl, _, _, hc⟩ := h.2.2 hn
    exact run_convert_bytes_arg w 26 5 Try.underlying26 Try.underlying5 b off n c l h.1 hc 9 Try.underlying9

theorem bytesEqual_same (a1 a2 : Option Addr) (n c m d : Nat) (Q1 Q2 : Nat → Prop) (l : List Int) (w : World) (h1 : NumsAt Q1 .u8 w a1 n l) (h2 : NumsAt Q2 .u8 w a2 m l) :
    Calls Try.prog 20 #[.slice a1 n c, .slice a2 m d] w fun e w' => e = .returned (.bool true) ∧ w' = w := by
  have g1 := run_string_of w c h1
  have g2 := run_string_of w d h2
  clear h1 h2
  go_enter Try.func20, Try.ntmps20
  go_wp2
  go_ret
  exact ⟨by simp, rfl⟩

set_option maxHeartbeats 1000000 in
set_option maxRecDepth 100000 in
theorem sameBlock_true (K : Blk) (ka : Option Addr) (kn kc : Nat) (ba : Option Addr) (bn bc : Nat) (ka' : Option Addr) (kc' : Nat) (ba' : Option Addr) (bc' : Nat) (Q1 Q2 : Nat → Prop) (w : World) (h4 : kn ≤ 4 ∧ bn ≤ 4)
    (hk : NumsAt Q1 .i64 w ka kn K.kids) (hb : NumsAt Q1 .u8 w ba bn K.bytes) (hk' : NumsAt Q2 .i64 w ka' kn K.kids) (hb' : NumsAt Q2 .u8 w ba' bn K.bytes) :
    Calls Try.prog 47 #[.agg #[.int .i64 K.refs, .int .i64 K.level, .slice ka kn kc, .slice ba bn bc], .agg #[.int .i64 K.refs, .int .i64 K.level, .slice ka' kn kc', .slice ba' bn bc']] w fun e w' => e = .returned (.bool true) ∧ Below w.heap.size w w' := by
  have b0 := (below_alloc w (.cells #[.int .i64 K.refs, .int .i64 K.level, .slice ka kn kc, .slice ba bn bc] 28)).alloc (by simp) (.cells #[.int .i64 K.refs, .int .i64 K.level, .slice ka' kn kc', .slice ba' bn bc'] 28)
  replace hk := hid (hk.below b0)
  replace hb := hid (hb.below b0)
  replace hk' := hid (hk'.below b0)
  replace hb' := hid (hb'.below b0)
  go_enter Try.func47, Try.ntmps47
  go_wp2_with fail
  refine (equalInts_same ka ka' kn kc kc' Q1 Q2 K.kids _ (by omega) hk.out hk'.out).mono ?_
  rintro e w1 ⟨rfl, q, rfl⟩
  have b1 := below_drewN w.heap.size ((w.alloc (.cells #[.int .i64 K.refs, .int .i64 K.level, .slice ka kn kc, .slice ba bn bc] 28)).alloc (.cells #[.int .i64 K.refs, .int .i64 K.level, .slice ka' kn kc', .slice ba' bn bc'] 28)) q
  have b2 := below_drewN ((w.alloc (.cells #[.int .i64 K.refs, .int .i64 K.level, .slice ka kn kc, .slice ba bn bc] 28)).alloc (.cells #[.int .i64 K.refs, .int .i64 K.level, .slice ka' kn kc', .slice ba' bn bc'] 28)).heap.size ((w.alloc (.cells #[.int .i64 K.refs, .int .i64 K.level, .slice ka kn kc, .slice ba bn bc] 28)).alloc (.cells #[.int .i64 K.refs, .int .i64 K.level, .slice ka' kn kc', .slice ba' bn bc'] 28)) q
  replace hb := hid (hb.out.below b2)
  replace hb' := hid (hb'.out.below b2)
  replace b1 := b0.trans b1
  clear b0 b2 hk hk'
  go_wp2_with fail
  refine (equalBytes_same ba ba' bn bc bc' Q1 Q2 K.bytes _ (by omega) hb.out hb'.out).mono ?_
  rintro e w2 ⟨rfl, q2, rfl⟩
  replace b1 := b1.trans (below_drewN w.heap.size _ q2)
  rw [World.drewN_drewN] at b1
  clear hb hb'
  go_wp2_with fail
  go_ret
  exact ⟨rfl, b1⟩

set_option maxHeartbeats 2000000 in
set_option maxRecDepth 100000 in
theorem equalFunc_true (a1 a2 : Option Addr) (n c d : Nat) (B : Nat → Blk) (w : World) (hn : n ≤ 400) (h4 : ∀ i, i < n → (B i).kids.length ≤ 4 ∧ (B i).bytes.length ≤ 4) (h1 : StoreAt w a1 n B) (h2 : StoreAt w a2 n B) :
    Calls Try.prog 46 #[.slice a1 n c, .slice a2 n d, .func (.func 47) #[] #[]] w fun e w' => e = .returned (.bool true) ∧ Below w.heap.size w w' := by
  replace h1 := hid h1
  replace h2 := hid h2
  replace h4 := hid h4
  go_enter Try.func46, Try.ntmps46
  go_wp2_with fail
  go_loopw [17] (fun v wr => ∃ i : Nat, i ≤ n ∧ v = .int .i64 i ∧ Below w.heap.size w wr) (fun v _ => n - (Go.RowKit.intOf v).toNat)
  case atStart => exact ⟨0, Nat.zero_le _, rfl, Below.refl _ _⟩
  case round =>
    obtain ⟨i, hin, rfl, hbel⟩ := hrel
    by_cases hlt : i < n
    · obtain ⟨b1, o1, rfl, hb1, hB1⟩ := h1.out (by omega)
      obtain ⟨b2, o2, rfl, hb2, hB2⟩ := h2.out (by omega)
      obtain ⟨ka, kn, kc, ba, bn, bc, x1⟩ := hB1 i hlt
      obtain ⟨ka', kn', kc', ba', bn', bc', x2⟩ := hB2 i hlt
      obtain rfl : kn' = kn := by rw [← x2.kids.1, x1.kids.1]
      obtain rfl : bn' = bn := by rw [← x2.bytes.1, x1.bytes.1]
      have hk4 : kn' ≤ 4 ∧ bn' ≤ 4 := by rw [← x1.kids.1, ← x1.bytes.1]; exact h4.out i hlt
      have c0 := (hbel.cell (p := ⟨b1, o1 + i * 4, none⟩) hb1).trans x1.c0
      have c1 := (hbel.cell (p := ⟨b1, o1 + i * 4 + 1, none⟩) hb1).trans x1.c1
      have c2 := (hbel.cell (p := ⟨b1, o1 + i * 4 + 2, none⟩) hb1).trans x1.c2
      have c3 := (hbel.cell (p := ⟨b1, o1 + i * 4 + 3, none⟩) hb1).trans x1.c3
      have d0 := (hbel.cell (p := ⟨b2, o2 + i * 4, none⟩) hb2).trans x2.c0
      have d1 := (hbel.cell (p := ⟨b2, o2 + i * 4 + 1, none⟩) hb2).trans x2.c1
      have d2 := (hbel.cell (p := ⟨b2, o2 + i * 4 + 2, none⟩) hb2).trans x2.c2
      have d3 := (hbel.cell (p := ⟨b2, o2 + i * 4 + 3, none⟩) hb2).trans x2.c3
      have g0 : ∀ o k, (wr.alloc o).cell? ⟨b2, k, none⟩ = wr.cell? ⟨b2, k, none⟩ := fun o k => World.cell?_alloc_past _ _ _ (Nat.lt_of_lt_of_le hb2 hbel.size)
      have bA := (below_alloc wr (.cells #[.int .i64 (B i).refs, .int .i64 (B i).level, .slice ka kn' kc, .slice ba bn' bc] 28)).alloc (by simp) (.cells #[.int .i64 (B i).refs, .int .i64 (B i).level, .slice ka' kn' kc', .slice ba' bn' bc'] 28)
      have hk := hid ((x1.kids.below hbel).below bA)
      have hb := hid ((x1.bytes.below hbel).below bA)
      have hk' := hid ((x2.kids.below hbel).below bA)
      have hb' := hid ((x2.bytes.below hbel).below bA)
      replace bA := Below.tr hbel bA
      clear x1 x2 hB1 hB2 h1 h2
      generalize B i = K at *
      go_wp2_with fail
      generalize (wr.alloc (.cells #[.int .i64 K.refs, .int .i64 K.level, .slice ka kn' kc, .slice ba bn' bc] 28)).alloc (.cells #[.int .i64 K.refs, .int .i64 K.level, .slice ka' kn' kc', .slice ba' bn' bc'] 28) = wA at *
      refine (sameBlock_true K ka kn' kc ba bn' bc ka' kc' ba' bc' _ _ wA hk4 hk.out hb.out hk'.out hb'.out).mono ?_
      rintro e w1 ⟨rfl, bB⟩
      replace bB := Below.tr bA bB
      clear c0 c1 c2 c3 d0 d1 d2 d3 g0 hk hb hk' hb' bA
      go_wp2_with fail
      go_roundw
      case rel => exact ⟨i + 1, by omega, by go_num, bB⟩
      case measure => simp [Go.RowKit.intOf]; omega
    · obtain rfl : i = n := by omega
      go_wp2_with fail
      go_ret
      exact ⟨rfl, hbel⟩

set_option maxHeartbeats 1000000 in
theorem storeSame_true (a1 a2 : Option Addr) (n c d : Nat) (B : Nat → Blk) (w : World) (hn : n ≤ 400) (h4 : ∀ i, i < n → (B i).kids.length ≤ 4 ∧ (B i).bytes.length ≤ 4) (h1 : StoreAt w a1 n B) (h2 : StoreAt w a2 n B) :
    Calls Try.prog 13 #[.agg #[.slice a1 n c], .agg #[.slice a2 n d]] w fun e w' => e = .returned (.bool true) ∧ Below w.heap.size w w' := by
  have b0 := (below_alloc w (.cells #[.slice a1 n c] 24)).alloc (by simp) (.cells #[.slice a2 n d] 24)
  replace h1 := hid h1
  replace h2 := hid h2
  replace h4 := hid h4
  go_enter Try.func13, Try.ntmps13
  go_wp2_with fail
  refine (equalFunc_true a1 a2 n c d B _ hn h4.out (h1.out.below b0) (h2.out.below b0)).mono ?_
  rintro e w1 ⟨rfl, b1⟩
  replace b1 := Below.tr b0 b1
  go_wp2_with fail
  go_ret
  exact ⟨rfl, b1⟩

theorem isCrowd_any (r lv : Int) (ka : Option Addr) (kn kc : Nat) (ba : Option Addr) (bn bc : Nat) (w : World) :
    Calls Try.prog 40 #[.agg #[.int .i64 r, .int .i64 lv, .slice ka kn kc, .slice ba bn bc]] w fun e w' => e = .returned (.bool (decide (999000 < r))) ∧ Below w.heap.size w w' := by
  go_enter Try.func40, Try.ntmps40
  go_wp2_with fail
  go_ret
  exact ⟨rfl, below_alloc _ _⟩

/-- it answers a place, or -1, and then none is crowded -/
def RetCr (e : Ending) (n : Nat) (B : Nat → Blk) : Prop := (e = .returned (.int .i64 (-1)) ∧ ∀ k, k < n → (B k).refs ≤ 999000) ∨ (∃ i : Nat, e = .returned (.int .i64 i))

set_option maxHeartbeats 1000000 in
set_option maxRecDepth 100000 in
theorem indexCrowd_any (a : Option Addr) (n c : Nat) (B : Nat → Blk) (w : World) (hn : n ≤ 9223372036854775807) (h : StoreAt w a n B) :
    Calls Try.prog 75 #[.slice a n c, .func (.func 40) #[] #[]] w fun e w' => RetCr e n B ∧ Below w.heap.size w w' := by
  go_enter Try.func75, Try.ntmps75
  go_wp2_with fail
  go_loopw [8] (fun v wr => ∃ i : Nat, i ≤ n ∧ v = .int .i64 i ∧ (∀ k, k < i → (B k).refs ≤ 999000) ∧ Below w.heap.size w wr) (fun v _ => n - (Go.RowKit.intOf v).toNat)
  case atStart => exact ⟨0, Nat.zero_le _, rfl, fun k hk => absurd hk (by omega), Below.refl _ _⟩
  case round =>
    obtain ⟨i, hin, rfl, hno, hbel⟩ := hrel
    replace hno := hid hno
    by_cases hlt : i < n
    · obtain ⟨b, off, rfl, hb, hB⟩ := (h.below hbel) (by omega)
      obtain ⟨ka, kn, kc, ba, bn, bc, hblk⟩ := hB i hlt
      have c0 := hblk.c0
      have c1 := hblk.c1
      have c2 := hblk.c2
      have c3 := hblk.c3
      clear hB hblk
      generalize hrf : (B i).refs = rf at *
      replace hrf := hid hrf
      generalize (B i).level = lv at *
      go_wp2_with fail
      refine (isCrowd_any rf lv ka kn kc ba bn bc wr).mono ?_
      rintro e w1 ⟨rfl, b1⟩
      replace hbel := Below.tr hbel b1
      by_cases h0 : 999000 < rf
      · have h0' : decide (999000 < rf) = true := by simp [h0]
        go_wp2_with fail
        go_ret
        exact ⟨.inr ⟨i, rfl⟩, hbel⟩
      · have h0' : decide (999000 < rf) = false := by simp; omega
        go_wp2_with fail
        go_roundw
        case rel =>
          refine ⟨i + 1, by omega, by go_num, fun k hk => ?_, hbel⟩
          rcases Nat.lt_or_ge k i with h' | h'
          · exact hno.out k h'
          · obtain rfl : k = i := by omega
            rw [hrf.out]; omega
        case measure => simp [Go.RowKit.intOf]; omega
    · obtain rfl : i = n := by omega
      go_wp2_with fail
      go_ret
      exact ⟨.inl ⟨rfl, hno.out⟩, hbel⟩

/-- it answers a Bool; false: none is crowded -/
def RetCb (e : Ending) (n : Nat) (B : Nat → Blk) : Prop := ∃ t, e = .returned (.bool t) ∧ (t = false → ∀ k, k < n → (B k).refs ≤ 999000)

theorem containsCrowd_any (a : Option Addr) (n c : Nat) (B : Nat → Blk) (w : World) (hn : n ≤ 9223372036854775807) (h : StoreAt w a n B) :
    Calls Try.prog 39 #[.slice a n c, .func (.func 40) #[] #[]] w fun e w' => RetCb e n B ∧ Below w.heap.size w w' := by
  go_enter Try.func39, Try.ntmps39
  go_wp2_with fail
  refine (indexCrowd_any a n c B w hn h).mono ?_
  rintro e w1 ⟨⟨rfl, hno⟩ | ⟨i, rfl⟩, b1⟩
  · replace hno := hid hno
    go_wp2_with fail
    go_ret
    exact ⟨⟨_, rfl, fun _ => hno.out⟩, b1⟩
  · go_wp2_with fail
    go_ret
    exact ⟨⟨_, rfl, fun f => by simp at f; try omega⟩, b1⟩

theorem crowded_any (a : Option Addr) (n c : Nat) (B : Nat → Blk) (w : World) (hn : n ≤ 9223372036854775807) (h : StoreAt w a n B) :
    Calls Try.prog 9 #[.agg #[.slice a n c]] w fun e w' => RetCb e n B ∧ Below w.heap.size w w' := by
  have b0 := below_alloc w (.cells #[.slice a n c] 24)
  replace h := hid h
  go_enter Try.func9, Try.ntmps9
  go_wp2_with fail
  refine (containsCrowd_any a n c B _ hn (h.out.below b0)).mono ?_
  rintro e w1 ⟨⟨t, rfl, ht⟩, b1⟩
  replace ht := hid ht
  replace b1 := Below.tr b0 b1
  go_wp2_with fail
  go_ret
  exact ⟨⟨t, rfl, ht.out⟩, b1⟩

end Go.Proofs.Ytaagnojdpedilab
