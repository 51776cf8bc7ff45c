/-
  Contracts of blocks.amongKids, Check, Outside. Nothing here is trusted.
-/
import Derived.Test.YtaagnojdpediladBlocks1
set_option linter.unusedVariables false
namespace Go.Proofs.Ytaagnojdpedilad
open Go.RowKit

theorem Try.infoInt : (Try.prog.info? 3).map (fun i => (i.zero, i.size, i.bytes)) = some (some (.int .i64 0), 1, 8) := by kernel_rfl

theorem kid_ix {n : Nat} {B : Nat → Blk} {x : Int} {q : Prop} (h : x = 0 ∨ (There n B x ∧ q)) (h0 : ¬ x = 0) : ∃ m : Nat, x = (m : Int) + 1 ∧ m < n := by
  rcases h with h | ⟨⟨h1, h2, _⟩, _⟩
  · exact absurd h h0
  · exact ⟨(x - 1).toNat, by omega, by omega⟩

/-- a row of n numbers, the k-th f k -/
def rowOf (n : Nat) (f : Nat → Int) : List Value := (List.range n).map fun k => .int .i64 (f k)
theorem rowOf_length (n : Nat) (f : Nat → Int) : (rowOf n f).length = n := by simp [rowOf]
theorem rowOf_congr {n : Nat} {f g : Nat → Int} (h : ∀ k, k < n → f k = g k) : rowOf n f = rowOf n g := by
  unfold rowOf
  apply List.map_congr_left
  intro k hk
  rw [h k (by simpa using hk)]
theorem rowOf_set (n : Nat) (f : Nat → Int) (i : Nat) (v : Int) : (rowOf n f).set i (.int .i64 v) = rowOf n (fun k => if k = i then v else f k) := by
  unfold rowOf
  apply List.ext_getElem
  · simp
  · intro k h1 h2
    simp only [List.getElem_set, List.getElem_map, List.getElem_range]
    by_cases e : i = k
    · subst e; simp
    · simp [e, show ¬ k = i by omega]
theorem rowOf_getD (n : Nat) (f : Nat → Int) (i : Nat) (hi : i < n) : (rowOf n f).getD i (.int .i64 0) = .int .i64 (f i) := by simp [rowOf, List.getD, hi]
theorem made_ints (n : Nat) : (madeCells (Value.cells (.int .i64 0)) (n * 1)).toList = rowOf n (fun _ => 0) := by
  apply List.ext_getElem
  · simp [madeCells, rowOf]
  · intro i h1 h2
    simp [madeCells, Value.cells, Nat.mod_one, rowOf]

/-- a row of one's own -/
def Row (w : World) (base g n : Nat) (f : Nat → Int) : Prop := w.ownsRow base 3 1 (.slice (some ⟨g, 0, none⟩) n n) n (rowOf n f)
theorem Row.congr {w : World} {base g n : Nat} {f h : Nat → Int} (r : Row w base g n f) (e : ∀ k, k < n → f k = h k) : Row w base g n h := by
  unfold Row at *
  rw [← rowOf_congr e]; exact r
theorem Row.cell {w : World} {base g n : Nat} {f : Nat → Int} (r : Row w base g n f) {k : Nat} (hk : k < n) : w.cell? ⟨g, k, none⟩ = some (.int .i64 (f k)) := by
  unfold Row at r
  rw [r.cellAt k (by omega)]
  simp [rowOf, hk]
theorem Row.frozen {w : World} {base g n : Nat} {f : Nat → Int} (r : Row w base g n f) (k : Nat) : w.frozen? ⟨g, k, none⟩ = false := by
  unfold Row at r
  exact r.frozenAt k
theorem Row.set {w : World} {base g n : Nat} {f : Nat → Int} (r : Row w base g n f) (k : Nat) (v : Int) : Row (w.setCell ⟨g, k, none⟩ (.int .i64 v)) base g n (fun j => if j = k then v else f j) := by
  unfold Row at *
  rw [← rowOf_set]
  exact (r.stored k (.int .i64 v)).1
theorem Row.lt {w : World} {base g n : Nat} {f : Nat → Int} (r : Row w base g n f) : base ≤ g ∧ g < w.heap.size := by
  unfold Row at r
  exact r.lt g rfl

/-- the counts, when all kids of the first i blocks and the first j of block i are told -/
def cnt (B : Nat → Blk) (i j : Nat) (k : Nat) : Int := (among i B ((k : Int) + 1) : Int) + (((B i).kids.take j).count ((k : Int) + 1) : Int)
theorem cnt_zero (B : Nat → Blk) (k : Nat) : cnt B 0 0 k = 0 := by simp [cnt, among, sumTo]
theorem cnt_next (B : Nat → Blk) (i : Nat) (k : Nat) (j : Nat) (h : (B i).kids.length ≤ j) : cnt B (i + 1) 0 k = cnt B i j k := by
  unfold cnt
  rw [List.take_of_length_le h]
  simp [among, sumTo]
theorem cnt_kid (B : Nat → Blk) (i j k : Nat) (h : j < (B i).kids.length) : cnt B i (j + 1) k = if (B i).kids.getD j 0 = (k : Int) + 1 then cnt B i j k + 1 else cnt B i j k := by
  unfold cnt
  rw [take_snoc h, List.count_append]
  by_cases e : (B i).kids.getD j 0 = (k : Int) + 1
  · rw [e]; simp; omega
  · rw [if_neg e, List.count_cons_of_ne e]; simp
theorem among_le {n : Nat} {B : Nat → Blk} (x : Int) : ∀ i, (∀ j, j < i → (B j).kids.length ≤ 4) → among i B x ≤ 4 * i
  | 0, _ => by simp [among, sumTo]
  | i + 1, h => by
    have := among_le (n := n) (B := B) x i (fun j hj => h j (by omega))
    have h2 := h i (by omega)
    have h3 : (B i).kids.count x ≤ (B i).kids.length := List.count_le_length
    unfold among at this ⊢
    simp only [sumTo]
    omega
theorem cnt_bd {n : Nat} {B : Nat → Blk} (i j k : Nat) (hi : i < n) (h : ∀ j, j < n → (B j).kids.length ≤ 4) : 0 ≤ cnt B i j k ∧ cnt B i j k ≤ 4 * i + 4 := by
  have h1 := among_le (n := n) (B := B) ((k : Int) + 1) i (fun j hj => h j (by omega))
  have h2 : ((B i).kids.take j).count ((k : Int) + 1) ≤ ((B i).kids.take j).length := List.count_le_length
  have h3 := h i hi
  simp at h2
  unfold cnt
  omega
theorem Form.few {n : Nat} {B : Nat → Blk} {b : Blk} (h : Form n B b) : b.kids.length ≤ 4 := by
  rcases h with ⟨_, _, h, _⟩ | ⟨_, ⟨_, h, _⟩ | ⟨_, h, _⟩⟩
  · simp [h]
  · simp [h]
  · omega

set_option maxHeartbeats 1000000 in
set_option maxRecDepth 100000 in
theorem amongKids_any (p : Addr) (a : Option Addr) (n c : Nat) (B : Nat → Blk) (w : World)
    (hn : n ≤ 400) (hp : p.block < w.heap.size) (hs : w.cell? p = some (.slice a n c)) (hS : StoreAt w a n B) (hF : ∀ i, i < n → Form n B (B i)) :
    Calls Try.prog 48 #[.pointer (some p)] w fun e w' => e = .returned (.slice (some ⟨w.heap.size, 0, none⟩) n n) ∧ Row w' w.heap.size w.heap.size n (fun k => among n B ((k : Int) + 1)) ∧ Below w.heap.size w w' := by
  obtain ⟨i0, hi, hz0, hz1, hz2⟩ := info_parts Try.infoInt
  have hlen : ∀ j, j < n → (B j).kids.length ≤ 4 := fun j hj => (hF j hj).few
  go_enter Try.func48, Try.ntmps48
  go_wp2_with (at_make; refine wpList_make_full _ rfl (.tmp 11) (.tmp 11) 35 rfl w.heap.size 3 i0 (.int .i64 0) 1 Try.underlying35 hi hz0 hz1 .i64 .i64 n n n rfl rfl rfl rfl (by rw [hz2]; omega) (by unfold maxLen; omega) (by simp) ?_; intro w2 hown hgr; have hb2 : Below w.heap.size w w2 := (Below.refl _ _).grown hgr (by simp) (by simp); have hs2 : w2.cell? p = some (.slice a n c) := (hb2.cell hp).trans hs)
  rw [made_ints] at hown
  go_loopw [18] (fun v wr => ∃ i : Nat, i ≤ n ∧ v = .int .i64 i ∧ Row wr w.heap.size w.heap.size n (cnt B i 0) ∧ Below w.heap.size w wr) (fun v _ => n - (Go.RowKit.intOf v).toNat)
  case atStart => exact ⟨0, Nat.zero_le _, rfl, Row.congr (f := fun _ => 0) hown (fun k _ => (cnt_zero B k).symm), hb2⟩
  case round =>
    clear hown hgr hb2 hs2
    obtain ⟨i, hin, rfl, hrow, hbel⟩ := hrel
    have hsr : wr.cell? p = some (.slice a n c) := (hbel.cell hp).trans hs
    by_cases hlt : i < n
    · obtain ⟨b, off, rfl, hb, hB⟩ := hS (by omega)
      obtain ⟨ka, kn, kc, ba, bn, bc, hblk⟩ := hB i hlt
      have hK := (hF i hlt).kids
      have hkn := hblk.kids.1
      have hc2 : wr.cell? ⟨b, off + i * 4 + 2, none⟩ = some (.slice ka kn kc) := (hbel.cell hb).trans hblk.c2
      have hkids := hblk.kids
      have hkn4 : kn ≤ 4 := by rw [← hkn]; exact hlen i hlt
      clear hB hblk
      replace hK := hid hK
      replace hkn := hid hkn
      replace hkids := hid hkids
      replace hrow := hid hrow
      go_wp2_with fail
      go_loopw [30] (fun v wi => ∃ j : Nat, j ≤ kn ∧ v = .int .i64 j ∧ Row wi w.heap.size w.heap.size n (cnt B i j) ∧ Below w.heap.size w wi) (fun v _ => kn - (Go.RowKit.intOf v).toNat)
      case atStart => exact ⟨0, Nat.zero_le _, rfl, hrow.out, hbel⟩
      case round =>
        clear hrow hbel hsr hc2
        obtain ⟨j, hjn, rfl, hrow, hbel⟩ := hrel
        by_cases hjlt : j < kn
        · obtain ⟨kb, ko, rfl, hkb, _, hc⟩ := hkids.out.2.2 (by omega)
          have hck : wr.cell? ⟨kb, ko + j, none⟩ = some (.int .i64 ((B i).kids.getD j 0)) := (hbel.cell hkb).trans (hc j hjlt)
          have hjl : j < (B i).kids.length := by rw [hkn.out]; exact hjlt
          have hmem : (B i).kids.getD j 0 ∈ (B i).kids := hkids.out.getD hjlt
          have hkk := hK.out _ hmem
          have hstep := hid (fun k => cnt_kid B i j k hjl)
          clear hc hmem hjl
          generalize (B i).kids.getD j 0 = x at *
          by_cases hx0 : x = 0
          · have hx0' : (x == 0) = true := by simp [hx0]
            have hrow' := hid (hrow.congr (h := cnt B i (j + 1)) (fun k _ => by rw [hstep.out, if_neg (by omega)]))
            clear hrow hkk hstep
            go_wp2_with fail
            go_roundw
            case rel => exact ⟨j + 1, by omega, by go_num, hrow'.out, hbel⟩
            case measure => simp [Go.RowKit.intOf]; omega
          · obtain ⟨m, rfl, hm⟩ := kid_ix hkk hx0
            have hx0' : (((m : Int) + 1) == 0) = false := by simp [hx0]
            have hrc := hrow.cell hm
            have hrf := hrow.frozen m
            have hbd := cnt_bd (n := n) (B := B) i j m hlt hlen
            have hrow' := hid ((hrow.set m (cnt B i j m + 1)).congr (h := cnt B i (j + 1)) (fun k _ => by
              rw [hstep.out]
              by_cases e : k = m
              · subst e; simp
              · rw [if_neg e, if_neg (by omega)]))
            clear hrow hkk hstep
            generalize cnt B i j m = cv at *
            go_wp2_with fail
            go_roundw
            case rel => exact ⟨j + 1, by omega, by go_num, hrow'.out, hbel.setCell (Nat.le_refl _) _⟩
            case measure => simp [Go.RowKit.intOf]; omega
        · obtain rfl : j = kn := by omega
          have hrow' := hid (hrow.congr (h := cnt B (i + 1) 0) (fun k _ => (cnt_next B i k j (by rw [hkn.out]; exact Nat.le_refl _)).symm))
          clear hrow
          go_wp2_with fail
          go_roundw
          case rel => exact ⟨i + 1, by omega, by go_num, hrow'.out, hbel⟩
          case measure => simp [Go.RowKit.intOf]; omega
    · obtain rfl : i = n := by omega
      replace hrow := hid hrow
      go_wp2_with fail
      go_ret
      exact ⟨rfl, hrow.out.congr (fun k _ => by simp [cnt]), hbel⟩

/-- a pointer to a store -/
structure PtrAt (w : World) (p : Addr) (a : Option Addr) (n c : Nat) (B : Nat → Blk) : Prop where
  lt : p.block < w.heap.size
  cell : w.cell? p = some (.slice a n c)
  store : StoreAt w a n B
theorem PtrAt.below {w w' : World} {p : Addr} {a : Option Addr} {n c : Nat} {B : Nat → Blk} (h : PtrAt w p a n c B) (hb : Below w.heap.size w w') : PtrAt w' p a n c B :=
  ⟨Nat.lt_of_lt_of_le h.lt hb.size, (hb.cell h.lt).trans h.cell, h.store.below hb⟩

theorem right_iff {n : Nat} {B : Nat → Blk} (hn : n ≤ 400) (hF : ∀ i, i < n → Form n B (B i)) : Right n B ↔ ∀ i, i < n → ((among n B ((i : Int) + 1) : Nat) : Int) ≤ (B i).refs :=
  ⟨fun h i hi => by have := h.held i hi; simpa using this, fun h => ⟨hn, hF, fun i hi => by simpa using h i hi, by simp⟩⟩

set_option maxHeartbeats 1000000 in
set_option maxRecDepth 100000 in
theorem check_any (p : Addr) (a : Option Addr) (n c : Nat) (B : Nat → Blk) (w : World) (h : PtrAt w p a n c B) :
    Calls Try.prog 33 #[.pointer (some p)] w fun e w' => RetE e (Right n B) ∧ Below w.heap.size w w' := by
  have hs := h.cell
  by_cases hn : n ≤ 400
  · go_enter Try.func33, Try.ntmps33
    go_wp2_with fail
    go_loopw [18] (fun v wr => ∃ i : Nat, i ≤ n ∧ v = .int .i64 i ∧ (∀ k, k < i → Form n B (B k)) ∧ Below w.heap.size w wr) (fun v _ => n - (Go.RowKit.intOf v).toNat)
    case atStart => exact ⟨0, Nat.zero_le _, rfl, fun k hk => absurd hk (by omega), Below.refl _ _⟩
    case round =>
      obtain ⟨i, hin, rfl, hF, hbel⟩ := hrel
      replace h := h.below hbel
      replace hs := h.cell
      replace hF := hid hF
      by_cases hlt : i < n
      · obtain ⟨b, off, rfl, hb, hB⟩ := h.store (by omega)
        obtain ⟨ka, kn, kc, ba, bn, bc, hblk⟩ := hB i hlt
        clear hB
        replace hblk := hid hblk
        go_wp2_with fail
        refine (checkBlock_any p (some ⟨b, off, none⟩) n c B b (off + i * 4) _ (B i) ka kn kc ba bn bc _ hn hs h.store hblk.out).mono ?_
        rintro e w1 ⟨⟨c, rfl, hc⟩, m, rfl⟩
        replace hc := hid hc
        by_cases hc0 : c = 0
        · have hc0' : (c == 0) = true := by simp [hc0]
          go_wp2_with fail
          go_roundw
          case rel => exact ⟨i + 1, by omega, by go_num, fun k hk => by rcases Nat.lt_or_ge k i with h' | h'; exact hF.out k h'; obtain rfl : k = i := by omega
                                                                        exact hc.out.1 hc0, hbel.trans (below_drewN _ _ _)⟩
          case measure => simp [Go.RowKit.intOf]; omega
        · have hc0' : (c == 0) = false := by simp [hc0]
          go_wp2_with fail
          go_ret
          exact ⟨retE_no c hc0 (fun e => hc0 (hc.out.2 (e.one i hlt))), hbel.trans (below_drewN _ _ _)⟩
      · obtain rfl : i = n := by omega
        go_wp2_with fail
        refine (amongKids_any p a i c B _ hn h.lt hs h.store hF.out).mono ?_
        rintro e w1 ⟨rfl, hrow, hb1⟩
        replace hbel := Below.tr hbel hb1
        replace h := h.below hb1
        replace hs := h.cell
        clear hb1
        generalize wr.heap.size = g at *
        replace hrow := hid hrow
        go_wp2_with fail
        go_loopw [36] (fun v wi => ∃ j : Nat, j ≤ i ∧ v = .int .i64 j ∧ (∀ k, k < j → ((among i B ((k : Int) + 1) : Nat) : Int) ≤ (B k).refs) ∧ wi = w1) (fun v _ => i - (Go.RowKit.intOf v).toNat)
        case atStart => exact ⟨0, Nat.zero_le _, rfl, fun k hk => absurd hk (by omega), rfl⟩
        case round =>
          obtain ⟨j, hji, rfl, hH, rfl⟩ := hrel
          replace hH := hid hH
          by_cases hjlt : j < i
          · have hrc := hrow.out.cell hjlt
            obtain ⟨b, off, rfl, hb, hB⟩ := h.store (by omega)
            obtain ⟨ka, kn, kc, ba, bn, bc, hblk⟩ := hB j hjlt
            have hrefs := hblk.c0
            clear hB hblk hb
            have J := hid ((right_iff hn hF.out).1)
            have J2 : Hid (((among i B ((j : Int) + 1) : Nat) : Int) ≤ (B j).refs → ∀ k, k < j + 1 → ((among i B ((k : Int) + 1) : Nat) : Int) ≤ (B k).refs) := hid (fun e k hk => by
              rcases Nat.lt_or_ge k j with h' | h'
              · exact hH.out k h'
              · obtain rfl : k = j := by omega
                exact e)
            have J3 : Hid (¬ ((among i B ((j : Int) + 1) : Nat) : Int) ≤ (B j).refs → ¬ Right i B) := hid (fun e f => e (J.out f j hjlt))
            clear J
            generalize ((among i B ((j : Int) + 1) : Nat) : Int) = am at *
            generalize (B j).refs = rf at *
            by_cases hle : am ≤ rf
            · have hle' : ¬ rf < am := by omega
              go_wp2_with fail
              go_roundw
              case rel => exact ⟨j + 1, by omega, by go_num, J2.out hle, trivial⟩
              case measure => simp [Go.RowKit.intOf]; omega
            · have hle' : rf < am := by omega
              go_wp2_with fail
              go_ret
              exact ⟨retE_no 7 (by omega) (J3.out (by omega)), hbel⟩
          · obtain rfl : j = i := by omega
            go_wp2_with fail
            go_ret
            exact ⟨retE_yes ((right_iff hn hF.out).2 hH.out), hbel⟩
  · have J : Hid (¬ Right n B) := hid fun e => hn e.small
    go_enter Try.func33, Try.ntmps33
    go_wp2_with fail
    go_ret
    exact ⟨retE_no 2 (by omega) J.out, Below.refl _ _⟩

end Go.Proofs.Ytaagnojdpedilad
