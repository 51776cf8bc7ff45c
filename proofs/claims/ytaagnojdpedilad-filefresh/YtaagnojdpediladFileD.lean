/-
  Contract of file.open. Nothing here is trusted.
-/
import Derived.Test.YtaagnojdpediladFileC
set_option linter.unusedVariables false
namespace Go.Proofs.Ytaagnojdpedilad
open Go.RowKit

theorem map_splice {α β : Type} (f : α → β) (L : List α) (off : Nat) (cs : List α) : splice (L.map f) off (cs.map f) = (splice L off cs).map f := by
  simp [splice]

/-- the row behind i leaves -/
def rowTo (key : Int) (L : Nat → List Int) (i : Nat) : List Int := (List.range 256).map fun k => if k < 4 * i then (plain key (k / 4) (L (k / 4))).getD (k % 4) 0 else 0
theorem rowTo_length (key : Int) (L : Nat → List Int) (i : Nat) : (rowTo key L i).length = 256 := by simp [rowTo]
theorem rowTo_getD (key : Int) (L : Nat → List Int) (i k : Nat) (hk : k < 256) : (rowTo key L i).getD k 0 = if k < 4 * i then (plain key (k / 4) (L (k / 4))).getD (k % 4) 0 else 0 := by simp [rowTo, List.getD, hk]
theorem rowTo_zero (key : Int) (L : Nat → List Int) : rowTo key L 0 = zeros 256 := by
  apply list_ext_getD
  · rw [rowTo_length, zeros_length]
  · intro k hk
    rw [rowTo_length] at hk
    rw [rowTo_getD _ _ _ _ hk, if_neg (by omega), zeros_getD]
theorem rowTo_all (key : Int) (L : Nat → List Int) : rowTo key L 64 = fileL key L := by
  unfold rowTo fileL
  apply List.map_congr_left
  intro k hk
  rw [if_pos (by have := List.mem_range.1 hk; omega)]
theorem zero4_getD (j : Nat) : ([0, 0, 0, 0] : List Int).getD j 0 = 0 := by
  match j with
  | 0 => rfl
  | 1 => rfl
  | 2 => rfl
  | 3 => rfl
  | j + 4 => rfl
theorem rowTo_skip (key : Int) (L : Nat → List Int) (i : Nat) (h : L i = []) : rowTo key L (i + 1) = rowTo key L i := by
  apply list_ext_getD
  · rw [rowTo_length, rowTo_length]
  · intro k hk
    rw [rowTo_length] at hk
    rw [rowTo_getD _ _ _ _ hk, rowTo_getD _ _ _ _ hk]
    by_cases h1 : k < 4 * i
    · rw [if_pos h1, if_pos (by omega)]
    · rw [if_neg h1]
      by_cases h2 : k < 4 * (i + 1)
      · rw [if_pos h2, show k / 4 = i by omega, h, plain_nil, zero4_getD]
      · rw [if_neg h2]
theorem rowTo_next (key : Int) (L : Nat → List Int) (i : Nat) (hi : i < 64) (h : L i ≠ []) (h4 : (L i).length = 4) : splice (rowTo key L i) (4 * i) (openL key (sealPlace i) (L i)) = rowTo key L (i + 1) := by
  have hl : (openL key (sealPlace i) (L i)).length = 4 := by rw [openL_length, h4]
  apply list_ext_getD
  · rw [length_splice _ _ _ (by rw [hl, rowTo_length]; omega), rowTo_length, rowTo_length]
  · intro k hk
    rw [length_splice _ _ _ (by rw [hl, rowTo_length]; omega), rowTo_length] at hk
    rw [splice_getD _ _ _ (by rw [hl, rowTo_length]; omega), hl, rowTo_getD _ _ _ _ hk, rowTo_getD _ _ _ _ hk]
    by_cases h1 : k < 4 * i
    · rw [if_neg (by omega), if_pos h1, if_pos (by omega)]
    · by_cases h2 : k < 4 * (i + 1)
      · rw [if_pos ⟨by omega, by omega⟩, if_pos h2, show k / 4 = i by omega, show k % 4 = k - 4 * i by omega]
        simp [plain, h]
      · rw [if_neg (by omega), if_neg h1, if_neg h2]
theorem rowTo_bytes (key : Int) (L : Nat → List Int) (i : Nat) : Bytes (rowTo key L i) := by
  intro x hx
  obtain ⟨k, _, rfl⟩ := List.mem_map.1 hx
  split
  · exact getD_bytes (plain_bytes _ _ _) _
  · omega
/-- a block of bytes is a row -/
theorem nums_of_cells {w : World} {g : Nat} {l : List Int} {t : TypeId} {Q : Nat → Prop} (hq : Q g) (hb : Bytes l) (h : CellsAt w g (l.map (Value.int .u8)).toArray t) : NumsAt Q .u8 w (some ⟨g, 0, none⟩) l.length l := by
  refine ⟨rfl, fun x hx => wf_u8 (hb x hx), fun _ => ⟨g, 0, rfl, h.lt, hq, fun i hi => ?_⟩⟩
  rw [Nat.zero_add, h.cell i]
  simp [List.getD, hi]

/-- what holds behind i leaves -/
structure OE (W wr : World) (g : Nat) (key : Int) (L : Nat → List Int) (i : Nat) : Prop where
  row : CellsAt wr g ((rowTo key L i).map (Value.int .u8)).toArray 5
  bel : Below W.heap.size W wr
  form : ∀ j, j < i → L j = [] ∨ plain key j (L j) ≠ [0, 0, 0, 0]

/-- what open answers -/
def RetO (base : Nat) (e : Ending) (w : World) (n : Nat) (B : Nat → Blk) (key root size : Int) : Prop :=
  (∃ e' : Int, e = .returned (.tuple #[.slice none 0 0, .int .i64 e']) ∧ e' ≠ 0 ∧ ¬ FileOk n B key root size) ∨
  (∃ g : Nat, e = .returned (.tuple #[.slice (some ⟨g, 0, none⟩) 256 256, .int .i64 0]) ∧ FileOk n B key root size ∧ base ≤ g ∧ CellsAt w g ((fileL key (leafAt B 3 root)).map (Value.int .u8)).toArray 5)

theorem keyB_zero {key : Int} (h : keyB key 0 = true) : 0 ≤ key ∧ key ≤ 1000 := by have := keyB_true h; omega
theorem keyB_not {key : Int} (h : keyB key 0 = false) : ¬ (0 ≤ key ∧ key ≤ 1000) := by have := keyB_false h; omega
theorem sealPlace_eq (i : Nat) : (i : Int) = sealPlace i := rfl
theorem sealPlace_keyB {key : Int} (hk : 0 ≤ key ∧ key ≤ 1000) {i : Nat} (hi : i < 64) : keyB key (i : Int) = true := sealPlace_key hk hi
theorem Try.sizeByte : (Try.prog.info? 5).map (·.size) = some 1 := by kernel_rfl
theorem one_map (l : List Int) : ∀ v ∈ l.map (Value.int .u8), v.oneCell' = true := by
  intro v hv
  obtain ⟨x, _, rfl⟩ := List.mem_map.1 hv
  rfl
theorem src_map {w : World} {b off n : Nat} {l : List Int} {Q : Nat → Prop} (h : NumsAt Q .u8 w (some ⟨b, off, none⟩) n l) (hn : 0 < n) : ∀ j v, (l.map (Value.int .u8))[j]? = some v → w.cell? ((⟨b, off, none⟩ : Addr).add j) = some v := by
  intro j v hj
  have hjl : j < l.length := by
    rcases Nat.lt_or_ge j l.length with h' | h'
    · exact h'
    · rw [List.getElem?_eq_none (by simpa using h')] at hj; cases hj
  obtain ⟨b', off', he, hb, _, hc⟩ := h.2.2 hn
  cases he
  have ea : (⟨b, off, none⟩ : Addr).add j = ⟨b, off + j, none⟩ := by unfold Addr.add; split <;> simp_all
  rw [ea, hc j (by rw [← h.1]; exact hjl)]
  simp [hjl] at hj
  simp [List.getD, hjl, hj]
theorem copy_run {w w0 : World} {B g off dLen dCap sLen sCap m : Nat} {sp : Option Addr} {t : TypeId} (Y X : List Value) (hY : CellsAt w g Y.toArray t) (hm : X.length = m) (hn : m = Nat.min sLen dLen)
    (hsrc : 0 < m → ∃ ad, sp = some ad ∧ ∀ j v, X[j]? = some v → w.cell? (ad.add j) = some v) (hfit : off + m ≤ Y.length) (h1 : ∀ v ∈ X, v.oneCell' = true) (hb : Below B w0 w) (hBg : B ≤ g) :
    ∃ w', (∀ ty, (Builtin.copy_ #[28, 28] ty #[.slice (some ⟨g, off, none⟩) dLen dCap, .slice sp sLen sCap]).run Try.prog w = .ok (goInt m) w') ∧ CellsAt w' g (splice Y off X).toArray t ∧ Below B w0 w' := by
  by_cases h0 : m = 0
  · obtain rfl : X = [] := List.eq_nil_of_length_eq_zero (by omega)
    subst h0
    exact ⟨w, fun ty => run_copy_none (P := Try.prog) w 28 28 ty 5 _ sp dLen dCap sLen sCap Try.underlying28 Try.sizeByte hn.symm, by simpa [splice] using hY, hb⟩
  · obtain ⟨ad, rfl, hs⟩ := hsrc (by omega)
    refine ⟨w.setRow g (Y.take off ++ (X ++ Y.drop (off + X.length))).toArray, fun ty => ?_, ?_, below_setRow hb hBg _⟩
    · have := run_copy_row (P := Try.prog) w 28 28 ty 5 g off dLen dCap ad sLen sCap Y.toArray t X Try.underlying28 Try.sizeByte hY (by omega) hs (by simp; omega) h1
      rw [← hm]
      rw [List.append_assoc] at this
      exact this
    · exact setRow_heap w g _ _ t _ hY
theorem made_zero {w : World} {B g n : Nat} (h : w.ownsRow B 5 1 (.slice (some ⟨g, 0, none⟩) n n) n (madeCells (Value.cells (.int .u8 0)) (n * 1)).toList) : CellsAt w g ((zeros n).map (Value.int .u8)).toArray 5 := by
  rw [made_bytes] at h
  exact cells_of_own h
theorem oe_start {w3 w4 : World} {key : Int} {L : Nat → List Int} {B : Nat} (hown : w4.ownsRow B 5 1 (.slice (some ⟨w3.heap.size, 0, none⟩) 256 256) 256 (madeCells (Value.cells (.int .u8 0)) (256 * 1)).toList) (hgr : w3.grownBy w4 none) : OE w3 w4 w3.heap.size key L 0 := by
  refine ⟨?_, ⟨hgr.os, hgr.tape, hgr.output, hgr.size, fun k hk => hgr.block k hk (by simp)⟩, fun j hj => absurd hj (by omega)⟩
  rw [rowTo_zero]
  exact made_zero hown

set_option maxHeartbeats 4000000 in
set_option maxRecDepth 100000 in
theorem open_any (a : Option Addr) (n c : Nat) (B : Nat → Blk) (key root size : Int) (w : World) (h : StoreAt w a n B) :
    Calls Try.prog 11 #[.agg #[.slice a n c], .int .i64 key, .agg #[.int .i64 root, .int .i64 size]] w fun e w' => RetO w.heap.size e w' n B key root size ∧ Below w.heap.size w w' := by
  obtain ⟨i0, hi0, hz0, hz1, hz2⟩ := info_parts Try.infoByte
  have b0 := (below_alloc w (.cells #[.slice a n c] 24)).alloc (by simp) (.cells #[.int .i64 root, .int .i64 size] 26)
  have ks : CellsAt _ w.heap.size #[.slice a n c] 24 := (cellsAt_alloc w _ _).below (below_alloc _ (.cells #[.int .i64 root, .int .i64 size] 26))
  have kf : CellsAt _ (w.heap.size + 1) #[.int .i64 root, .int .i64 size] 26 := cellsAt_alloc2 w (.cells #[.slice a n c] 24) _ _
  replace b0 := hid b0
  replace ks := hid ks
  replace kf := hid kf
  replace h := hid h
  by_cases hk : keyB key 0 = true
  case neg =>
    have hk' : keyB key 0 = false := by simpa using hk
    have hno : Hid (¬ FileOk n B key root size) := hid fun f => keyB_not hk' f.kb
    clear hk
    go_enter Try.func11, Try.ntmps11
    go_wp2_with fail
    generalize (w.alloc (.cells #[.slice a n c] 24)).alloc (.cells #[.int .i64 root, .int .i64 size] 26) = w0 at *
    refine (check_no key 0 w0 hk').mono ?_
    rintro e w1 ⟨rfl, rfl⟩
    go_wp2_with fail
    go_ret2
    exact ⟨.inl ⟨3, rfl, by omega, hno.out⟩, b0.out⟩
  have hkb := keyB_zero hk
  go_enter Try.func11, Try.ntmps11
  go_wp2_with fail
  generalize (w.alloc (.cells #[.slice a n c] 24)).alloc (.cells #[.int .i64 root, .int .i64 size] 26) = w0 at *
  refine (check_ok key 0 w0 hk).mono ?_
  rintro e w1 ⟨rfl, rfl⟩
  replace hkb := hid hkb
  clear hk
  have s0 := ks.out.cell 0
  have f0 := kf.out.cell 0
  have f1 := kf.out.cell 1
  simp at s0 f0 f1
  by_cases hs : 0 ≤ size ∧ size ≤ 256
  case neg =>
    have hno : Hid (¬ FileOk n B key root size) := hid fun f => hs f.sb
    go_wp2_with fail
    refine (isSize_no size _ hs).mono ?_
    rintro e w2 ⟨rfl, rfl⟩
    clear hs
    go_wp2_with fail
    go_ret2
    exact ⟨.inl ⟨3, rfl, by omega, hno.out⟩, b0.out⟩
  go_wp2_with fail
  refine (isSize_ok size _ hs).mono ?_
  rintro e w2 ⟨rfl, rfl⟩
  obtain ⟨sz, rfl⟩ : ∃ sz : Nat, size = (sz : Int) := ⟨size.toNat, by omega⟩
  have hsz : sz ≤ 256 := by omega
  clear hs
  go_wp2_with fail
  refine (treeAll_any a n c B root 3 w2 (h.out.below b0.out)).mono ?_
  rintro e w3 ⟨hA, b3⟩
  rcases hA with ⟨e', rfl, he, hno⟩ | ⟨l, va, vc, rfl, hl, hl3, hR, hr, hW⟩
  · have he' : (e' == 0) = false := by simp [he]
    have hno' : Hid (¬ FileOk n B key root sz) := hid fun f => hno f.checked
    clear hno
    have bel := Below.tr b0.out b3
    go_wp2_with fail
    go_ret2
    exact ⟨.inl ⟨e', rfl, he, hno'.out⟩, bel⟩
  obtain rfl : l = 3 := by omega
  have f1' := (kf.out.below b3).cell 1
  simp at f1'
  replace kf := hid (kf.out.below b3)
  have bel := hid (Below.tr b0.out b3)
  have h04 := fun i hi => leafAt_04 hR 3 root hr i hi
  replace h04 := hid h04
  replace hR := hid hR
  replace hr := hid hr
  replace hW := hid hW
  clear hl hl3 s0 f0 f1 b0 ks h
  have e64 : pw 3 = 64 := rfl
  rw [e64]
  have hb3 := hid b3
  have hw3 : w.heap.size ≤ w3.heap.size := bel.out.size
  clear b3
  go_wp2_with (at_make; refine wpList_make_full _ rfl (.const (.int .i64 256)) (.const (.int .i64 256)) 28 rfl w.heap.size 5 i0 (.int .u8 0) 1 Try.underlying28 hi0 hz0 hz1 .i64 .i64 256 256 256 rfl rfl rfl rfl (by rw [hz2]; omega) (by unfold maxLen; omega) hw3 ?_; intro w4 hown hgr; replace hown := hid hown; replace hgr := hid hgr)
  have hE0 := hid (oe_start (key := key) (L := leafAt B 3 root) hown.out hgr.out)
  clear hown hgr
  go_loopw [38] (fun v wr => ∃ i : Nat, i ≤ 64 ∧ v = .int .i64 i ∧ OE w3 wr w3.heap.size key (leafAt B 3 root) i) (fun v _ => 64 - (Go.RowKit.intOf v).toNat)
  case atStart => exact ⟨0, Nat.zero_le _, rfl, hE0.out⟩
  case round =>
    clear hE0
    obtain ⟨i, hi64, rfl, hE⟩ := hrel
    by_cases hlt : i < 64
    · obtain ⟨rb, ro, x, ln, lc, rfl, hrb, hrc, hrN⟩ := (hW.out.below hE.bel).2 i hlt
      rw [leavesL_getD B 3 root i hlt] at hrN
      have hlen := hrN.1
      rcases h04.out i hlt with h0 | h4
      · have hn0 : ln = 0 := by rw [← hlen, h0]; rfl
        subst hn0
        have hE' : Hid (OE w3 wr w3.heap.size key (leafAt B 3 root) (i + 1)) := hid ⟨by rw [rowTo_skip _ _ _ h0]; exact hE.row, hE.bel, fun j hj => by
          by_cases e : j = i
          · subst e; exact .inl h0
          · exact hE.form j (by omega)⟩
        clear hE hrN hlen h0
        go_wp2_with fail
        go_roundw
        case rel => exact ⟨i + 1, by omega, by go_num, hE'.out⟩
        case measure => simp [Go.RowKit.intOf]; omega
      · have hn4 : ln = 4 := by omega
        subst hn4
        clear hlen
        replace hE := hid hE
        replace hrN := hid hrN
        replace h4 := hid h4
        go_wp2_with fail
        refine (open_ok key _ x 4 lc _ wr (sealPlace_keyB hkb.out hlt) (by omega) hrN.out.bytesAt).mono ?_
        rintro e w5 ⟨g5, rfl, hB5, b5⟩
        rw [sealPlace_eq i] at hB5
        have hne : Hid (leafAt B 3 root i ≠ []) := hid fun f => by have := h4.out; rw [f] at this; simp at this
        have hpl : Hid (plain key i (leafAt B 3 root i) = openL key (sealPlace i) (leafAt B 3 root i)) := hid (if_neg hne.out)
        have hol : Hid ((openL key (sealPlace i) (leafAt B 3 root i)).length = 4) := hid (by rw [openL_length]; exact h4.out)
        have hrow5 := hid (hE.out.row.below b5)
        have hE5 : Hid (Below w3.heap.size w3 w5) := hid (hE.out.bel.trans (b5.mono hE.out.bel.size))
        have hnx := hid (rowTo_next key (leafAt B 3 root) i hlt hne.out h4.out)
        have hN5 := hid hB5.nums
        have bel5 : Hid (Below w.heap.size w w5) := hid (Below.tr bel.out hE5.out)
        clear hB5 b5
        generalize openL key (sealPlace i) (leafAt B 3 root i) = op at *
        go_wp2_with fail
        refine (isNoughts_any _ 4 _ op (fun _ => True) w5 (by omega) hN5.out).mono ?_
        rintro e w6 ⟨⟨rfl, hz⟩ | ⟨rfl, hz⟩, rfl⟩
        · have hno : Hid (¬ FileOk n B key root sz) := hid fun f => by
            rcases f.form i hlt with h | h
            · exact hne.out h
            · exact h (by rw [hpl.out]; exact four_zero hol.out hz)
          clear hz
          go_wp2_with fail
          go_ret2
          exact ⟨.inl ⟨4, rfl, by omega, hno.out⟩, bel5.out⟩
        · have hE6 : Hid (∀ w7, CellsAt w7 w3.heap.size (splice ((rowTo key (leafAt B 3 root) i).map (Value.int .u8)) (4 * i) (op.map (Value.int .u8))).toArray 5 → Below w3.heap.size w3 w7 → OE w3 w7 w3.heap.size key (leafAt B 3 root) (i + 1)) := hid fun w7 h1 h2 => ⟨by rw [← hnx.out, ← map_splice]; exact h1, h2, fun j hj => by
            by_cases e : j = i
            · subst e; exact .inr (by rw [hpl.out]; intro f; exact hz (by rw [f]; intro x hx; simp at hx; exact hx))
            · exact hE.out.form j (by omega)⟩
          have hone := hid (one_map op)
          have hsrc := hid (src_map hN5.out (by omega))
          have hcl : Hid ((op.map (Value.int .u8)).length = 4) := hid (by rw [List.length_map]; exact hol.out)
          have hrl : Hid (((rowTo key (leafAt B 3 root) i).map (Value.int .u8)).length = 256) := hid (by rw [List.length_map, rowTo_length])
          clear hz hE hrN
          generalize op.map (Value.int .u8) = X at *
          generalize (rowTo key (leafAt B 3 root) i).map (Value.int .u8) = Y at *
          obtain ⟨w7, hrun, hr7, b7⟩ := copy_run (off := i * 4) (dLen := 256 - i * 4) (dCap := 256 - i * 4) (sLen := 4) (sCap := 4) (sp := some ⟨g5, 0, none⟩) Y X hrow5.out hcl.out (by show 4 = min 4 (256 - i * 4); omega) (fun _ => ⟨_, rfl, hsrc.out⟩) (by rw [hrl.out]; omega) hone.out hE5.out (Nat.le_refl _)
          rw [Nat.mul_comm i 4] at hr7
          replace hr7 := hid (hE6.out w7 hr7 b7)
          clear b7 hE6 hrow5
          go_wp2_with fail
          go_roundw
          case rel => exact ⟨i + 1, by omega, by go_num, hr7.out⟩
          case measure => simp [Go.RowKit.intOf]; omega
    · obtain rfl : i = 64 := by omega
      have hrow := hE.row
      rw [rowTo_all] at hrow
      have hform := hid hE.form
      have bel6 := hid (Below.tr bel.out hE.bel)
      have hN := nums_of_cells (Q := fun _ => True) trivial (fileL_bytes key (leafAt B 3 root)) hrow
      rw [fileL_length] at hN
      have hpc := hid (hN.piece (lo := sz) (m := 256 - sz) (by omega))
      have hfl := fileL_length key (leafAt B 3 root)
      have f2 := (hE.bel.cell (p := ⟨w.heap.size + 1, 1, none⟩) kf.out.lt).trans f1'
      have hbeh : Hid ((∀ x ∈ ((fileL key (leafAt B 3 root)).drop sz).take (256 - sz), x = 0) ↔ ∀ k : Nat, (sz : Int) ≤ k → k < 256 → (fileL key (leafAt B 3 root)).getD k 0 = 0) := hid (by
        have hl2 : (((fileL key (leafAt B 3 root)).drop sz).take (256 - sz)).length = 256 - sz := by simp [hfl]
        have hg : ∀ j, j < 256 - sz → (((fileL key (leafAt B 3 root)).drop sz).take (256 - sz)).getD j 0 = (fileL key (leafAt B 3 root)).getD (sz + j) 0 := fun j hj => by simp [List.getD, hj]
        rw [← getD_all hl2]
        constructor
        · intro h k h1 h2
          have := h (k - sz) (by omega)
          rw [hg _ (by omega), show sz + (k - sz) = k by omega] at this
          exact this
        · intro h j hj
          rw [hg j hj]
          exact h (sz + j) (by omega) (by omega))
      replace hrow := hid hrow
      replace hfl := hid hfl
      clear hE hN
      have hok : Hid ((∀ x ∈ ((fileL key (leafAt B 3 root)).drop sz).take (256 - sz), x = 0) ↔ FileOk n B key root sz) := hid ⟨fun f => ⟨hkb.out, by omega, hR.out, hr.out, hform.out, hbeh.out.1 f⟩, fun f => hbeh.out.2 f.behind⟩
      generalize ((fileL key (leafAt B 3 root)).drop sz).take (256 - sz) = tl at *
      clear hbeh hform
      rcases Nat.lt_or_ge sz 256 with hs2 | hs2
      · rw [Nat.zero_add] at hpc
        go_wp2_with fail
        refine (isNoughts_any _ _ _ tl (fun _ => True) wr (by omega) hpc.out).mono ?_
        rintro e w6 ⟨⟨rfl, hz⟩ | ⟨rfl, hz⟩, rfl⟩
        · rw [hok.out] at hz
          replace hz := hid hz
          go_wp2_with fail
          go_ret2
          exact ⟨.inr ⟨w3.heap.size, rfl, hz.out, hw3, hrow.out⟩, bel6.out⟩
        · rw [hok.out] at hz
          replace hz := hid hz
          go_wp2_with fail
          go_ret2
          exact ⟨.inl ⟨4, rfl, by omega, hz.out⟩, bel6.out⟩
      · obtain rfl : sz = 256 := by omega
        have hp0 : Hid (NumsAt (fun _ => True) .u8 wr (some ⟨w3.heap.size, 0, none⟩) 0 tl) := hid ⟨by have := hpc.out.1; omega, hpc.out.2.1, fun h => absurd h (by omega)⟩
        clear hpc
        go_wp2_with fail
        refine (isNoughts_any _ 0 _ tl (fun _ => True) wr (by omega) hp0.out).mono ?_
        rintro e w6 ⟨⟨rfl, hz⟩ | ⟨rfl, hz⟩, rfl⟩
        · rw [hok.out] at hz
          replace hz := hid hz
          go_wp2_with fail
          go_ret2
          exact ⟨.inr ⟨w3.heap.size, rfl, hz.out, hw3, hrow.out⟩, bel6.out⟩
        · rw [hok.out] at hz
          replace hz := hid hz
          go_wp2_with fail
          go_ret2
          exact ⟨.inl ⟨4, rfl, by omega, hz.out⟩, bel6.out⟩
end Go.Proofs.Ytaagnojdpedilad
