/-
  Contracts of slices.Clone, blocks.copyBlock, Copy. Nothing here is trusted.
-/
import Derived.Test.YtaagnojdpediladBlocks3
import Derived.Lib.SliceRun
set_option linter.unusedVariables false
namespace Go.Proofs.Ytaagnojdpedilad
open Go.RowKit

theorem Try.infoByte : (Try.prog.info? 5).map (fun i => (i.zero, i.size, i.bytes)) = some (some (.int .u8 0), 1, 1) := by kernel_rfl

theorem numsAt_own {w : World} {k : IntKind} {B : Nat} {e : TypeId} {v : Value} {n : Nat} {l : List Int} (hl : ∀ x ∈ l, (Lit.int k x).wf = true) (h : w.ownsRow B e 1 v n (l.map (Value.int k))) :
    ∃ a c, v = .slice a n c ∧ n ≤ c ∧ NumsAt (fun b => B ≤ b) k w a n l := by
  have hn : l.length = n := by have := h.1; simpa using this
  rcases h.2 with ⟨hv, h0⟩ | ⟨g, cap, cur, hv, hg, hh, hnc, _⟩
  · subst hv h0
    exact ⟨none, 0, rfl, Nat.le_refl _, hn, hl, fun hp => absurd hp (by omega)⟩
  · subst hv
    refine ⟨_, _, rfl, hnc, hn, hl, fun hp => ⟨g, 0, rfl, (h.lt g rfl).2, hg, fun i hi => ?_⟩⟩
    rw [Nat.zero_add, h.cellAt i (by omega)]
    simp [hn, hi]

set_option maxHeartbeats 400000 in
theorem cloneInts_any (a : Option Addr) (n c : Nat) (l : List Int) (Q : Nat → Prop) (w : World) (hn : n ≤ 4) (h : NumsAt Q .i64 w a n l) :
    Calls Try.prog 51 #[.slice a n c] w fun e w' =>
      Below w.heap.size w w' ∧ ∃ a' c', e = .returned (.slice a' n c') ∧ n ≤ c' ∧ NumsAt (fun b => w.heap.size ≤ b) .i64 w' a' n l := by
  obtain ⟨i0, hi, hz0, hz1, hz2⟩ := info_parts Try.infoInt
  have qn : ∀ (w : World) (a : Option Addr) (n c n' c' : Nat), (binOp .eql 35 (.slice a n c) (.slice none n' c')).run Try.prog w = .ok (.bool a.isNone) w := fun w a n c n' c' => Lib.run_eql_slice_nil w _ _ a n c n' c' Try.underlying35
  cases a with
  | none =>
    have hn0 : n = 0 := by
      rcases Nat.eq_zero_or_pos n with h0 | h0
      · exact h0
      · obtain ⟨_, _, h1, _⟩ := h.2.2 h0
        cases h1
    subst hn0
    have hl := h.1
    replace h := hid h
    go_enter Try.func51, Try.ntmps51
    go_wp2_with fail
    go_ret
    exact ⟨Below.refl _ _, _, _, rfl, Nat.le_refl _, by rw [List.eq_nil_of_length_eq_zero hl]; exact numsAt_nil _ _ _ _⟩
  | some x =>
    have hl := h.1
    have hcn : ∀ j u, (l.map (Value.int .i64))[j]? = some u → (w.alloc (.cells #[] 3)).cell? (x.add j) = some u := by
      intro j u hj
      have hjl : j < l.length := by
        rcases Nat.lt_or_ge j l.length with h | h
        · exact h
        · simp [List.getElem?_eq_none h] at hj
      obtain ⟨b, off, he, hb, _, hc⟩ := h.2.2 (by omega)
      obtain rfl : x = ⟨b, off, none⟩ := by simpa using he
      have ea : (⟨b, off, none⟩ : Addr).add j = ⟨b, off + j, none⟩ := by unfold Addr.add; split <;> simp_all
      rw [ea, World.cell?_alloc_past _ _ _ hb, hc j (by omega)]
      simp [hjl] at hj
      simp [List.getD, hjl, hj]
    have A := hid hcn
    have hwf := hid h.2.1
    replace hl := hid hl
    clear hcn h
    go_enter Try.func51, Try.ntmps51
    go_wp2_with (at_builtin; refine wpList_append_own _ rfl _ _ 35 rfl w.heap.size 3 i0 (.int .i64 0) 1 8 Try.underlying35 hi hz0 hz1 hz2 rfl (by decide) _ _ _ rfl (World.ownsRow_made w #[] 0 (Nat.le_refl _) (Nat.zero_le _) (by simp)) x n c (l.map (Value.int .i64)) rfl ?qc1 ?qc2 ?qc3 ?qc4 ?qc5 ?qc6 ?_)
    case qc1 => simp [hl.out]
    case qc2 => exact A.out
    case qc3 => intro u hu; simp at hu; obtain ⟨x, _, rfl⟩ := hu; rfl
    case qc4 => unfold maxLen; omega
    case qc5 => omega
    case qc6 => simp
    intro v' w1 hown hgrow hnil
    have hown' : w1.ownsRow w.heap.size 3 1 v' n (l.map (Value.int .i64)) := by simpa using hown
    have hbel := ((Below.refl _ w).alloc (Nat.le_refl _) _).grown hgrow (by simp) (by intro k hk; simp [Value.ownBlock] at hk; omega)
    clear hown hgrow A hnil
    obtain ⟨a', c', rfl, hnc, hN⟩ := numsAt_own hwf.out hown'
    replace hN := hid hN
    clear hown'
    go_wp2_with fail
    go_ret
    exact ⟨hbel, a', c', rfl, hnc, hN.out⟩

set_option maxHeartbeats 400000 in
theorem cloneBytes_any (a : Option Addr) (n c : Nat) (l : List Int) (Q : Nat → Prop) (w : World) (hn : n ≤ 4) (h : NumsAt Q .u8 w a n l) :
    Calls Try.prog 28 #[.slice a n c] w fun e w' =>
      Below w.heap.size w w' ∧ ∃ a' c', e = .returned (.slice a' n c') ∧ n ≤ c' ∧ NumsAt (fun b => w.heap.size ≤ b) .u8 w' a' n l := by
  obtain ⟨i0, hi, hz0, hz1, hz2⟩ := info_parts Try.infoByte
  have qn : ∀ (w : World) (a : Option Addr) (n c n' c' : Nat), (binOp .eql 28 (.slice a n c) (.slice none n' c')).run Try.prog w = .ok (.bool a.isNone) w := fun w a n c n' c' => Lib.run_eql_slice_nil w _ _ a n c n' c' Try.underlying28
  cases a with
  | none =>
    have hn0 : n = 0 := by
      rcases Nat.eq_zero_or_pos n with h0 | h0
      · exact h0
      · obtain ⟨_, _, h1, _⟩ := h.2.2 h0
        cases h1
    subst hn0
    have hl := h.1
    replace h := hid h
    go_enter Try.func28, Try.ntmps28
    go_wp2_with fail
    go_ret
    exact ⟨Below.refl _ _, _, _, rfl, Nat.le_refl _, by rw [List.eq_nil_of_length_eq_zero hl]; exact numsAt_nil _ _ _ _⟩
  | some x =>
    have hl := h.1
    have hcn : ∀ j u, (l.map (Value.int .u8))[j]? = some u → (w.alloc (.cells #[] 5)).cell? (x.add j) = some u := by
      intro j u hj
      have hjl : j < l.length := by
        rcases Nat.lt_or_ge j l.length with h | h
        · exact h
        · simp [List.getElem?_eq_none h] at hj
      obtain ⟨b, off, he, hb, _, hc⟩ := h.2.2 (by omega)
      obtain rfl : x = ⟨b, off, none⟩ := by simpa using he
      have ea : (⟨b, off, none⟩ : Addr).add j = ⟨b, off + j, none⟩ := by unfold Addr.add; split <;> simp_all
      rw [ea, World.cell?_alloc_past _ _ _ hb, hc j (by omega)]
      simp [hjl] at hj
      simp [List.getD, hjl, hj]
    have A := hid hcn
    have hwf := hid h.2.1
    replace hl := hid hl
    clear hcn h
    go_enter Try.func28, Try.ntmps28
    go_wp2_with (at_builtin; refine wpList_append_own _ rfl _ _ 28 rfl w.heap.size 5 i0 (.int .u8 0) 1 1 Try.underlying28 hi hz0 hz1 hz2 rfl (by decide) _ _ _ rfl (World.ownsRow_made w #[] 0 (Nat.le_refl _) (Nat.zero_le _) (by simp)) x n c (l.map (Value.int .u8)) rfl ?qc1 ?qc2 ?qc3 ?qc4 ?qc5 ?qc6 ?_)
    case qc1 => simp [hl.out]
    case qc2 => exact A.out
    case qc3 => intro u hu; simp at hu; obtain ⟨x, _, rfl⟩ := hu; rfl
    case qc4 => unfold maxLen; omega
    case qc5 => omega
    case qc6 => simp
    intro v' w1 hown hgrow hnil
    have hown' : w1.ownsRow w.heap.size 5 1 v' n (l.map (Value.int .u8)) := by simpa using hown
    have hbel := ((Below.refl _ w).alloc (Nat.le_refl _) _).grown hgrow (by simp) (by intro k hk; simp [Value.ownBlock] at hk; omega)
    clear hown hgrow A hnil
    obtain ⟨a', c', rfl, hnc, hN⟩ := numsAt_own hwf.out hown'
    replace hN := hid hN
    clear hown'
    go_wp2_with fail
    go_ret
    exact ⟨hbel, a', c', rfl, hnc, hN.out⟩

theorem cellsAt_alloc2 (w : World) (o : Obj) (cs : Array Value) (t : TypeId) : CellsAt ((w.alloc o).alloc (.cells cs t)) (w.heap.size + 1) cs t := heap_alloc2_new w _ _

/-- it answers such a block, in new memory -/
def RetK (B : Nat) (e : Ending) (w : World) (K : Blk) : Prop :=
  ∃ ka kn kc ba bn bc, e = .returned (.agg #[.int .i64 K.refs, .int .i64 K.level, .slice ka kn kc, .slice ba bn bc]) ∧ NumsAt (fun b => B ≤ b) .i64 w ka kn K.kids ∧ NumsAt (fun b => B ≤ b) .u8 w ba bn K.bytes ∧ kn ≤ kc ∧ bn ≤ bc

set_option maxHeartbeats 1000000 in
set_option maxRecDepth 100000 in
theorem copyBlock_any (K : Blk) (ka : Option Addr) (kn kc : Nat) (ba : Option Addr) (bn bc : Nat) (Q : Nat → Prop) (w : World) (hk : NumsAt Q .i64 w ka kn K.kids) (hb : NumsAt Q .u8 w ba bn K.bytes) (h4 : kn ≤ 4 ∧ bn ≤ 4) :
    Calls Try.prog 42 #[.agg #[.int .i64 K.refs, .int .i64 K.level, .slice ka kn kc, .slice ba bn bc]] w fun e w' => RetK w.heap.size e w' K ∧ Below w.heap.size w w' := by
  have b0 := (below_alloc w (.cells #[.int .i64 K.refs, .int .i64 K.level, .slice ka kn kc, .slice ba bn bc] 41)).alloc (by simp) (.cells #[.int .i64 0, .int .i64 0, .slice none 0 0, .slice none 0 0] 41)
  have k1 : CellsAt _ w.heap.size #[.int .i64 K.refs, .int .i64 K.level, .slice ka kn kc, .slice ba bn bc] 41 := (cellsAt_alloc w _ _).below (below_alloc _ (.cells #[.int .i64 0, .int .i64 0, .slice none 0 0, .slice none 0 0] 41))
  have k2 := cellsAt_alloc2 w (.cells #[.int .i64 K.refs, .int .i64 K.level, .slice ka kn kc, .slice ba bn bc] 41) #[.int .i64 0, .int .i64 0, .slice none 0 0, .slice none 0 0] 41
  have hsz : w.heap.size + 2 = ((w.alloc (.cells #[.int .i64 K.refs, .int .i64 K.level, .slice ka kn kc, .slice ba bn bc] 41)).alloc (.cells #[.int .i64 0, .int .i64 0, .slice none 0 0, .slice none 0 0] 41)).heap.size := by simp
  replace hk := hk.below b0
  replace hb := (hb.weaken (R := fun b => b < w.heap.size) (fun b h _ => h)).below b0
  replace k1 := hid k1
  replace k2 := hid k2
  replace hsz := hid hsz
  go_enter Try.func42, Try.ntmps42
  go_wp2_with fail
  generalize (w.alloc (.cells #[.int .i64 K.refs, .int .i64 K.level, .slice ka kn kc, .slice ba bn bc] 41)).alloc (.cells #[.int .i64 0, .int .i64 0, .slice none 0 0, .slice none 0 0] 41) = w0 at *
  refine (cloneInts_any ka kn kc K.kids Q w0 h4.1 hk).mono ?_
  rintro e w1 ⟨b1, ka', kc', rfl, hkc, hK⟩
  have hsz1 : w.heap.size + 2 ≤ w1.heap.size := by have := hsz.out; have := b1.size; omega
  replace hb := hb.below b1
  replace hK := hK.weaken (R := fun b => w.heap.size + 2 ≤ b) (fun b _ h => by have := hsz.out; omega)
  replace k1 := hid (k1.out.below b1)
  replace k2 := hid (k2.out.below b1)
  replace b1 := Below.tr b0 b1
  clear hk b0 hsz
  have c0 := k1.out.cell 0
  have c1 := k1.out.cell 1
  have c2 := k1.out.cell 2
  have c3 := k1.out.cell 3
  have f2 := k1.out.frozen 2
  simp at c0 c1 c2 c3
  go_wp2_with fail
  clear c0 c1 c2 c3 f2
  have kk := Kept.setCell (g := w.heap.size) (Kept.refl _ w1) (p := ⟨w.heap.size, 2, none⟩) rfl (.slice ka' kn kc')
  replace k1 := k1.out.set 2 (.slice ka' kn kc')
  replace k2 := k2.out.past (a := ⟨w.heap.size, 2, none⟩) (by simp) (.slice ka' kn kc')
  replace hb := hb.kept (fun b h => by omega) kk
  replace hK := hK.kept (fun b h => by omega) kk
  replace b1 := b1.trans (kk.below (Nat.le_refl _))
  have hsz2 := hid kk.size
  clear kk
  simp at k1
  generalize w1.setCell ⟨w.heap.size, 2, none⟩ (.slice ka' kn kc') = w2 at *
  refine (cloneBytes_any ba bn bc K.bytes _ w2 h4.2 hb).mono ?_
  rintro e w3 ⟨b3, ba', bc', rfl, hbc, hB⟩
  replace hB := hB.weaken (R := fun b => w.heap.size + 2 ≤ b) (fun b _ h => by have := hsz2.out; omega)
  replace hK := hK.below b3
  replace k1 := k1.below b3
  replace k2 := k2.below b3
  replace b1 := Below.tr b1 b3
  have c0 := k1.cell 0
  have c1 := k1.cell 1
  have c2 := k1.cell 2
  have c3 := k1.cell 3
  have f3 := k1.frozen 3
  simp at c0 c1 c2 c3
  have d0 := k2.cell 0
  have d1 := k2.cell 1
  have d2 := k2.cell 2
  have d3 := k2.cell 3
  have e0 := k2.frozen 0
  have e1 := k2.frozen 1
  have e2 := k2.frozen 2
  have e3 := k2.frozen 3
  simp at d0 d1 d2 d3
  replace k2 := hid k2
  clear k1 hb b3 hsz2
  go_wp2_with fail
  clear c0 c1 c2 c3 f3 d0 d1 d2 d3 e0 e1 e2 e3
  have kk1 := Kept.setCell (g := w.heap.size) (Kept.refl _ w3) (p := ⟨w.heap.size, 3, none⟩) rfl (.slice ba' bn bc')
  have kk2 := kept_put4 (w3.setCell ⟨w.heap.size, 3, none⟩ (.slice ba' bn bc')) (w.heap.size + 1) 0 (.int .i64 K.refs) (.int .i64 K.level) (.slice ka' kn kc') (.slice ba' bn bc')
  have k3 := ((((k2.out.past (a := ⟨w.heap.size, 3, none⟩) (by simp) (.slice ba' bn bc')).set 0 (.int .i64 K.refs)).set 1 (.int .i64 K.level)).set 2 (.slice ka' kn kc')).set 3 (.slice ba' bn bc')
  simp only [List.setIfInBounds_toArray, List.set_cons_succ, List.set_cons_zero] at k3
  refine bodyPost_ret (v := .agg #[.int .i64 K.refs, .int .i64 K.level, .slice ka' kn kc', .slice ba' bn bc']) ?_ rfl ⟨⟨ka', kn, kc', ba', bn, bc', rfl, ?_, ?_, hkc, hbc⟩, ?_⟩
  · exact results_cell_row rfl _ _ (w.heap.size + 1) _ _ _ _ rfl k3 Try.underlying41 rfl (by kernel_rfl)
  · exact ((hK.kept (fun b h => by omega) kk1).kept (fun b h => by omega) kk2).weaken (fun b _ h => by omega)
  · exact ((hB.kept (fun b h => by omega) kk1).kept (fun b h => by omega) kk2).weaken (fun b _ h => by omega)
  · exact (b1.trans (kk1.below (Nat.le_refl _))).trans (kk2.below (by omega))

/-- what a store of one's own is, with the pointer to it -/
structure OwnPtr (w : World) (p : Addr) (g n : Nat) (B : Nat → Blk) : Prop where
  lt : p.block < w.heap.size
  ne : p.block ≠ g
  cell : w.cell? p = some (.slice (some ⟨g, 0, none⟩) n n)
  own : Own w g n B

set_option maxHeartbeats 1000000 in
set_option maxRecDepth 100000 in
theorem copy_any (p : Addr) (a : Option Addr) (n c : Nat) (B : Nat → Blk) (w : World) (h : PtrAt w p a n c B) (hn : n ≤ 400) (hF : ∀ i, i < n → (B i).kids.length ≤ 4 ∧ (B i).bytes.length ≤ 4) :
    Calls Try.prog 29 #[.pointer (some p)] w fun e w' => Below w.heap.size w w' ∧ ∃ g, e = .returned (.agg #[.slice (some ⟨g, 0, none⟩) n n]) ∧ w.heap.size ≤ g ∧ Own w' g n B := by
  obtain ⟨i0, hi, hz0, hz1, hz2⟩ := info_parts Try.infoBlk
  have hs := h.cell
  have hp := h.lt
  go_enter Try.func29, Try.ntmps29
  go_wp2_with (at_make; refine wpList_make_full _ rfl (.tmp 10) (.tmp 10) 22 rfl (w.heap.size + 1) 41 i0 _ 4 Try.underlying22 hi hz0 hz1 .i64 .i64 n n n rfl rfl rfl rfl (by rw [hz2]; omega) (by unfold maxLen; omega) (by simp) ?_; intro w2 hown hgr; have hres : CellsAt w2 w.heap.size #[.slice none 0 0] 24 := (by unfold CellsAt; rw [hgr.block w.heap.size (by simp) (by simp)]; exact heap_alloc_new w _); have hb2 : Below w.heap.size w w2 := ((Below.refl _ _).alloc (Nat.le_refl _) _).grown hgr (by simp) (by simp); have hs2 : w2.cell? p = some (.slice a n c) := (hb2.cell hp).trans hs)
  have hown' : w2.ownsRow (w.heap.size + 1) 41 4 (.slice (some ⟨w.heap.size + 1, 0, none⟩) n n) n (madeCells (Value.agg #[.int .i64 0, .int .i64 0, .slice none 0 0, .slice none 0 0]).cells (n * 4)).toList := by simpa using hown
  have hO : Own w2 (w.heap.size + 1) n (fun _ => Blk.zero) := ⟨(hown'.lt _ rfl).2, blocks_made hown', fun i _ => hown'.frozenAt i⟩
  clear hown hown' hgr hs2
  have hs2 : w2.cell? p = some (.slice a n c) := (hb2.cell hp).trans hs
  go_loopw [17] (fun v wr => ∃ i : Nat, i ≤ n ∧ v = .int .i64 i ∧ Own wr (w.heap.size + 1) n (fun k => if k < i then B k else Blk.zero) ∧ CellsAt wr w.heap.size #[.slice none 0 0] 24 ∧ Below w.heap.size w wr) (fun v _ => n - (Go.RowKit.intOf v).toNat)
  case atStart => exact ⟨0, Nat.zero_le _, rfl, hO.congr (fun k _ => by simp), hres, hb2⟩
  case round =>
    clear hO hres hb2 hs2
    obtain ⟨i, hin, rfl, hO, hres, hbel⟩ := hrel
    replace h := h.below hbel
    by_cases hlt : i < n
    · obtain ⟨b, off, rfl, hb, hB⟩ := h.store (by omega)
      obtain ⟨ka, kn, kc, ba, bn, bc, hblk⟩ := hB i hlt
      have c0 := hblk.c0
      have c1 := hblk.c1
      have c2 := hblk.c2
      have c3 := hblk.c3
      have hk4 : kn ≤ 4 ∧ bn ≤ 4 := by rw [← hblk.kids.1, ← hblk.bytes.1]; exact hF i hlt
      have hr := hid hblk.refs
      have hl := hid hblk.level
      have hkk := hid hblk.kids
      have hbb := hid hblk.bytes
      replace hO := hid hO
      replace hres := hid hres
      clear hB hblk hF
      generalize hKdef : B i = K at *
      replace hKdef := hid hKdef
      go_wp2_with fail
      clear c0 c1 c2 c3
      have ba0 := below_alloc wr (.cells #[.int .i64 K.refs, .int .i64 K.level, .slice ka kn kc, .slice ba bn bc] 41)
      replace hkk := hkk.out.below ba0
      replace hbb := hbb.out.below ba0
      replace hO := hO.out.below ba0
      replace hres := hres.out.below ba0
      replace hbel := Below.tr hbel ba0
      clear ba0 h hs hp hb
      generalize wr.alloc (.cells #[.int .i64 K.refs, .int .i64 K.level, .slice ka kn kc, .slice ba bn bc] 41) = wa at *
      refine (copyBlock_any K ka kn kc ba bn bc _ wa hkk hbb hk4).mono ?_
      rintro e w1 ⟨⟨ka', kn', kc', ba', bn', bc', rfl, hK', hB', hc1', hc2'⟩, b1⟩
      have hlt1 := hO.lt
      replace hK' := hid (hK'.weaken (R := fun b => w.heap.size + 1 < b) (fun b _ h => by omega))
      replace hB' := hid (hB'.weaken (R := fun b => w.heap.size + 1 < b) (fun b _ h => by omega))
      replace hO := hO.below b1
      replace hres := hid (hres.below b1)
      replace hbel := Below.tr hbel b1
      obtain ⟨xa, xn, xc, ya, yn, yc, hx⟩ := hO.cell hlt
      have d0 := hx.c0
      have d1 := hx.c1
      have d2 := hx.c2
      have d3 := hx.c3
      have e0 := hO.free (i * 4) (by omega)
      have e1 := hO.free (i * 4 + 1) (by omega)
      have e2 := hO.free (i * 4 + 2) (by omega)
      have e3 := hO.free (i * 4 + 3) (by omega)
      simp only [Nat.lt_irrefl, if_false] at d0 d1 d2 d3
      replace hO := hid hO
      clear hx hkk hbb b1 hlt1
      go_wp2_with fail
      clear d0 d1 d2 d3 e0 e1 e2 e3
      have hput := hO.out.put hlt K ka' kn' kc' ba' bn' bc' hK'.out hB'.out hr.out hl.out ⟨hc1', hc2'⟩
      have hkp := kept_put4 w1 (w.heap.size + 1) (i * 4) (.int .i64 K.refs) (.int .i64 K.level) (.slice ka' kn' kc') (.slice ba' bn' bc')
      go_roundw
      case rel =>
        refine ⟨i + 1, by omega, by go_num, hput.congr (fun k hk => ?_), ?_, hbel.trans (hkp.below (by omega))⟩
        · by_cases e : k = i
          · subst e; rw [upd_same]; simp [hKdef.out]
          · rw [upd_other _ _ _ _ e]
            by_cases e2 : k < i
            · simp [e2, show k < i + 1 by omega]
            · simp [e2, show ¬ k < i + 1 by omega]
        · unfold CellsAt
          rw [hkp.block _ (by omega)]
          exact hres.out
      case measure => simp [Go.RowKit.intOf]; omega
    · obtain rfl : i = n := by omega
      have r0 := hres.cell 0
      have r1 := hres.frozen 0
      simp at r0
      replace hO := hid (hO.congr (C := B) (fun k hk => by simp [hk]))
      replace hres := hid hres
      go_wp2_with fail
      have kk := Kept.setCell (g := w.heap.size) (Kept.refl _ wr) (p := ⟨w.heap.size, 0, none⟩) rfl (.slice (some ⟨w.heap.size + 1, 0, none⟩) i i)
      have k3 := hres.out.set 0 (.slice (some ⟨w.heap.size + 1, 0, none⟩) i i)
      simp only [List.setIfInBounds_toArray, List.set_cons_zero] at k3
      refine bodyPost_ret (v := .agg #[.slice (some ⟨w.heap.size + 1, 0, none⟩) i i]) ?_ rfl ⟨hbel.trans (kk.below (Nat.le_refl _)), w.heap.size + 1, rfl, by omega, ?_⟩
      · exact results_cell_row rfl _ _ w.heap.size _ _ _ _ rfl k3 Try.underlying24 rfl (by kernel_rfl)
      · exact ⟨by simpa using hO.out.lt, hO.out.blocks.kept (by omega) (fun b h => by omega) kk, fun k hk => by simpa using hO.out.free k hk⟩

end Go.Proofs.Ytaagnojdpedilad
