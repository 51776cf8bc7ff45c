/-
  DskC, DskD in one text. Nothing here is trusted.
-/
import Derived.Test.YtihkljfcplfldaaGreatPart34
import Derived.Test.YtihkljfcplfldaaGreatPart23
set_option linter.unusedVariables false
namespace Go.Proofs.YtihkljfcplfldaaGreat
open Go.RowKit

/-- a slice of bytes, whatever it shares -/
structure RowB (w : World) (a : Option Addr) (n c : Nat) (l : List Int) : Prop where
  nums : NumsAt (fun _ => True) .u8 w a n l
  cap : n ≤ c
  big : c ≤ maxLen
  nil : a = none → c = 0
theorem RowB.below {w w' : World} {a : Option Addr} {n c : Nat} {l : List Int} (h : RowB w a n c l) (b : Below w.heap.size w w') : RowB w' a n c l := ⟨h.nums.below b, h.cap, h.big, h.nil⟩
theorem RowB.kept {w w' : World} {a : Option Addr} {n c : Nat} {l : List Int} {g lo : Nat} (h : RowB w a n c l) (hb : NumsAt (fun b => lo ≤ b) .u8 w a n l) (hg : g < lo) (k : Kept g w w') : RowB w' a n c l := ⟨(hb.kept (g := g) (fun b hb => by omega) k).weaken (fun _ _ _ => trivial), h.cap, h.big, h.nil⟩
theorem rowB_nil (w : World) : RowB w none 0 0 [] := ⟨numsAt_nil _ _ _ _, Nat.le_refl _, Nat.zero_le _, fun _ => rfl⟩
/-- a slice of bytes in memory that is new -/
def NewB (base : Nat) (w : World) (v : Value) (l : List Int) : Prop := ∃ g n, v = .slice (some ⟨g, 0, none⟩) n n ∧ NumsAt (fun b => base ≤ b) .u8 w (some ⟨g, 0, none⟩) n l ∧ n ≤ maxLen

set_option maxHeartbeats 400000 in
theorem copied_any (Q : Nat → Prop) (a : Option Addr) (n c : Nat) (l : List Int) (w : World) (hN : NumsAt Q .u8 w a n l) (hn : n ≤ 1000000) :
    Calls Tryz.prog 62 #[.slice a n c] w fun e w' => (e = .returned (.slice (some ⟨w.heap.size, 0, none⟩) n n) ∧ NumsAt (fun b => w.heap.size ≤ b) .u8 w' (some ⟨w.heap.size, 0, none⟩) n l) ∧ Below w.heap.size w w' := by
  obtain ⟨i0, hi0, hz0, hz1, hz2⟩ := info_parts Tryz.infoByte
  have hll := hN.1
  have hzl : Hid (((zeros n).map (Value.int .u8)).length = n) := hid (by rw [List.length_map, zeros_length])
  have hbX : Hid ((l.map (Value.int .u8)).length = n) := hid (by rw [List.length_map, hll])
  have hby : Hid (Bytes l) := hid hN.bytes
  have h1b := hid (one_map l)
  have hsb : Hid (∀ w', Below w.heap.size w w' → 0 < n → ∃ ad, a = some ad ∧ ∀ j v, (l.map (Value.int .u8))[j]? = some v → w'.cell? (ad.add j) = some v) := hid fun w' hw hp => by
    have := hN.below hw
    obtain ⟨q, off, rfl, _⟩ := this.2.2 hp
    exact ⟨_, rfl, src_map this hp⟩
  have fin : Hid (∀ w', CellsAt w' w.heap.size (splice ((zeros n).map (Value.int .u8)) 0 (l.map (Value.int .u8))).toArray 5 → NumsAt (fun b => w.heap.size ≤ b) .u8 w' (some ⟨w.heap.size, 0, none⟩) n l) := hid fun w' h => by
    have e : splice ((zeros n).map (Value.int .u8)) 0 (l.map (Value.int .u8)) = l.map (Value.int .u8) := by
      unfold splice
      rw [List.take_zero, List.nil_append, List.drop_eq_nil_of_le (by rw [hzl.out, hbX.out]; omega), List.append_nil]
    rw [e] at h
    have := nums_of_cells (Q := fun b => w.heap.size ≤ b) (Nat.le_refl _) hby.out h
    rwa [hll] at this
  clear hN
  replace hll := hid hll
  go_enter Tryz.func62, Tryz.ntmps62
  go_wp2_with (at_make; refine wpList_make_full _ rfl (.tmp 5) (.tmp 5) 28 rfl w.heap.size 5 i0 (.int .u8 0) 1 Tryz.underlying28 hi0 hz0 hz1 .i64 .i64 _ _ n rfl rfl rfl rfl (by rw [hz2]; omega) (by unfold maxLen; omega) (Nat.le_refl _) ?_; intro w4 hown hgr; have hc4 := made_zero hown; have b4 : Below w.heap.size w w4 := ⟨hgr.os, hgr.tape, hgr.output, hgr.size, fun k hk => hgr.block k hk (by simp)⟩; clear hown hgr; obtain ⟨w5, hr5, hc5, b5⟩ := copy_run (off := 0) (dLen := n) (dCap := n) (sLen := n) (sCap := c) (m := n) _ _ hc4 hbX.out (show n = min n n by omega) (hsb.out w4 b4) (by rw [hzl.out]; omega) h1b.out b4 (Nat.le_refl _); replace hc5 := hid (fin.out w5 hc5); replace b5 := hid b5; clear hc4 b4)
  go_ret
  exact ⟨⟨rfl, hc5.out⟩, b5.out⟩

set_option maxHeartbeats 400000 in
theorem tooLong_any (a : Option Addr) (n c : Nat) (b : Option Addr) (m d : Nat) (w : World) (hn : (n : Int) ≤ 9223372036854775807) (hm : (m : Int) ≤ 9223372036854775807) :
    Calls Tryz.prog 38 #[.agg #[.slice a n c, .slice b m d]] w fun e w' => e = .returned (.bool (decide ((20009 : Int) < max (n : Int) (m : Int)))) ∧ Below w.heap.size w w' := by
  have b0 := hid (below_alloc w (.cells #[.slice a n c, .slice b m d] 53))
  have k0 : CellsAt _ w.heap.size #[.slice a n c, .slice b m d] 53 := cellsAt_alloc w _ _
  have p0 := k0.cell 0
  have p1 := k0.cell 1
  simp at p0 p1
  clear k0
  go_enter Tryz.func38, Tryz.ntmps38
  go_wp2_with fail
  go_ret
  exact ⟨rfl, b0.out⟩

/-- a slice of bytes in memory that is new -/
structure RowN (base : Nat) (w : World) (a : Option Addr) (n c : Nat) (l : List Int) : Prop where
  row : RowB w a n c l
  new : NumsAt (fun b => base ≤ b) .u8 w a n l
theorem RowN.below {base : Nat} {w w' : World} {a : Option Addr} {n c : Nat} {l : List Int} (h : RowN base w a n c l) (b : Below w.heap.size w w') : RowN base w' a n c l := ⟨h.row.below b, h.new.below b⟩
theorem RowN.kept {base g : Nat} {w w' : World} {a : Option Addr} {n c : Nat} {l : List Int} (h : RowN base w a n c l) (k : Kept g w w') (hg : g < base) : RowB w' a n c l := h.row.kept h.new hg k
theorem RowN.keptN {base g : Nat} {w w' : World} {a : Option Addr} {n c : Nat} {l : List Int} (h : RowN base w a n c l) (k : Kept g w w') (hg : g < base) : RowN base w' a n c l := ⟨h.kept k hg, h.new.kept (g := g) (fun b hb => by omega) k⟩
theorem RowN.mono {base base' : Nat} {w : World} {a : Option Addr} {n c : Nat} {l : List Int} (h : RowN base w a n c l) (hb : base' ≤ base) : RowN base' w a n c l := ⟨h.row, h.new.weaken (fun b _ q => by omega)⟩
/-- a disk in memory -/
def RetDk (base : Nat) (e : Ending) (w : World) (A B : List Int) : Prop := ∃ a n c b m d, e = .returned (.agg #[.slice a n c, .slice b m d]) ∧ RowN base w a n c A ∧ RowN base w b m d B
theorem newB_row {base : Nat} {w : World} {g n : Nat} {l : List Int} (h : NumsAt (fun b => base ≤ b) .u8 w (some ⟨g, 0, none⟩) n l) (hn : n ≤ 1000000) : RowN base w (some ⟨g, 0, none⟩) n n l := ⟨⟨h.weaken (fun _ _ _ => trivial), Nat.le_refl _, by unfold maxLen; omega, fun e => by cases e⟩, h⟩

set_option maxHeartbeats 2000000 in
set_option maxRecDepth 100000 in
theorem replaced_any (a : Option Addr) (n c : Nat) (A : List Int) (b : Option Addr) (m d : Nat) (B : List Int) (wh : Int) (s : Option Addr) (sn sc : Nat) (S : List Int) (w : World) (hA : RowB w a n c A) (hB : RowB w b m d B) (hS : RowB w s sn sc S) (hn : n ≤ 1000000) (hm : m ≤ 1000000) (hsn : sn ≤ 1000000) :
    Calls Tryz.prog 36 #[.agg #[.slice a n c, .slice b m d], .int .i64 wh, .slice s sn sc] w fun e w' => RetDk w.heap.size e w' (if wh = 1 then S else A) (if wh = 1 then B else S) ∧ Below w.heap.size w w' := by
  have b0 := hid (below_two w (.cells #[.slice a n c, .slice b m d] 53) (.cells #[.slice none 0 0, .slice none 0 0] 53))
  have k0 : CellsAt _ w.heap.size #[.slice a n c, .slice b m d] 53 := (cellsAt_alloc w _ _).below (below_alloc _ (.cells #[.slice none 0 0, .slice none 0 0] 53))
  have k1 : CellsAt _ (w.heap.size + 1) #[.slice none 0 0, .slice none 0 0] 53 := cellsAt_alloc2 w (.cells #[.slice a n c, .slice b m d] 53) _ _
  have hsz : ((w.alloc (.cells #[.slice a n c, .slice b m d] 53)).alloc (.cells #[.slice none 0 0, .slice none 0 0] 53)).heap.size = w.heap.size + 2 := by simp
  replace hA := hid (hA.below b0.out)
  replace hB := hid (hB.below b0.out)
  replace hS := hid (hS.below b0.out)
  go_enter Tryz.func36, Tryz.ntmps36
  go_upto_if 8 with fail
  generalize (w.alloc (.cells #[.slice a n c, .slice b m d] 53)).alloc (.cells #[.slice none 0 0, .slice none 0 0] 53) = w0 at *
  have l0 := k0.lt
  have l1 := k1.lt
  have p0 := k0.cell 0
  have p1 := k0.cell 1
  have q0 := k1.cell 0
  have q1 := k1.cell 1
  have z0 := k1.frozen 0
  have z1 := k1.frozen 1
  simp at p0 p1 q0 q1
  have HB0 := hid (below_drew w0.heap.size w0)
  have hA0 : Hid (∀ w', Below w0.heap.size w0 w' → NumsAt (fun _ => True) .u8 w' a n A) := hid fun w' h => hA.out.nums.below h
  have hB0 : Hid (∀ w', Below w0.heap.size w0 w' → NumsAt (fun _ => True) .u8 w' b m B) := hid fun w' h => hB.out.nums.below h
  have hS0 : Hid (∀ w', Below w0.heap.size w0 w' → NumsAt (fun _ => True) .u8 w' s sn S) := hid fun w' h => hS.out.nums.below h
  by_cases hw : wh = 1
  · subst hw
    go_upto_region 2 with fail
    have hb1 := hid (fun (w1 : World) (h : Below w0.heap.size w0 w1) => (h.cell (p := ⟨w.heap.size, 1, none⟩) l0).trans p1)
    go_region_with (first | (go_at_call_of 62 (Value.slice s sn sc); refine Calls.mono (copied_any (fun _ => True) s sn sc S _ (hS0.out _ HB0.out) hsn) ?_; rintro e w1 ⟨⟨rfl, hN1⟩, b1⟩; replace b1 := hid (Below.tr HB0.out b1); have p11 := hb1.out _ b1.out; replace hN1 := hid hN1) | (go_at_call_of 62 (Value.slice b m d); refine Calls.mono (copied_any (fun _ => True) b m d B _ (hB0.out _ b1.out) hm) ?_; rintro e w2 ⟨⟨rfl, hN2⟩, b2⟩; replace hN1 := hid (hN1.out.below b2); replace hN2 := hid hN2; replace b2 := hid (Below.tr b1.out b2); have k12 := k1.below b2.out; have q0' := k12.cell 0; have q1' := k12.cell 1; have z0' := k12.frozen 0; have z1' := k12.frozen 1; simp only [List.getElem?_toArray, List.getElem?_cons_zero, List.getElem?_cons_succ] at q0' q1'; replace k12 := hid k12))
    all_goals (
      go_wp2_with fail
      have kF := cells_put2v (.slice (some ⟨w.heap.size + 2, 0, none⟩) sn sn) (.slice (some ⟨w1.heap.size, 0, none⟩) m m) k12.out
      have kk := kept_put2v w2 (w.heap.size + 1) (.slice (some ⟨w.heap.size + 2, 0, none⟩) sn sn) (.slice (some ⟨w1.heap.size, 0, none⟩) m m)
      unfold put2v at kF kk
      have hs1 := b1.out.size
      refine bodyPost_ret (v := .agg #[.slice (some ⟨w.heap.size + 2, 0, none⟩) sn sn, .slice (some ⟨w1.heap.size, 0, none⟩) m m]) (results_cell_row rfl _ _ (w.heap.size + 1) _ _ _ _ rfl kF Tryz.underlying53 rfl (by kernel_rfl)) rfl ⟨⟨_, _, _, _, _, _, rfl, ?_, ?_⟩, (Below.tr b0.out b2.out).trans (kk.below (by omega))⟩
      · have hN1' := hN1.out
        rw [show w0.drew.heap.size = w.heap.size + 2 from hsz] at hN1'
        exact newB_row (base := w.heap.size) ((hN1'.kept (g := w.heap.size + 1) (fun b hb => by omega) kk).weaken (fun b _ hb => by have := hsz; have := b0.out.size; omega)) hsn
      · exact newB_row (base := w.heap.size) ((hN2.out.kept (g := w.heap.size + 1) (fun b hb => by omega) kk).weaken (fun b _ hb => by have := hsz; have := b0.out.size; omega)) hm)
  · have hw' : (wh == 1) = false := by simp [hw]
    go_wp2_with fail
    refine (copied_any (fun _ => True) a n c A w0 hA.out.nums hn).mono ?_
    rintro e w1 ⟨⟨rfl, hN1⟩, b1⟩
    replace hN1 := hid hN1
    replace hS := hid (hS.out.below b1)
    replace k1 := hid (k1.below b1)
    replace b0 := hid (Below.tr b0.out b1)
    have hs1 := b1.size
    clear p0 p1 q0 q1 z0 z1 b1
    go_wp2_with fail
    refine (copied_any (fun _ => True) s sn sc S w1 hS.out.nums hsn).mono ?_
    rintro e w2 ⟨⟨rfl, hN2⟩, b2⟩
    replace hN1 := hid (hN1.out.below b2)
    replace hN2 := hid hN2
    have k12 := k1.out.below b2
    have b02 := hid (Below.tr b0.out b2)
    have q0' := k12.cell 0
    have q1' := k12.cell 1
    have z0' := k12.frozen 0
    have z1' := k12.frozen 1
    simp only [List.getElem?_toArray, List.getElem?_cons_zero, List.getElem?_cons_succ] at q0' q1'
    replace k12 := hid k12
    go_wp2_with fail
    have kF := cells_put2v (.slice (some ⟨w0.heap.size, 0, none⟩) n n) (.slice (some ⟨w1.heap.size, 0, none⟩) sn sn) k12.out
    have kk := kept_put2v w2 (w.heap.size + 1) (.slice (some ⟨w0.heap.size, 0, none⟩) n n) (.slice (some ⟨w1.heap.size, 0, none⟩) sn sn)
    unfold put2v at kF kk
    rw [hsz] at kF kk
    refine bodyPost_ret (v := .agg #[.slice (some ⟨w.heap.size + 2, 0, none⟩) n n, .slice (some ⟨w1.heap.size, 0, none⟩) sn sn]) (results_cell_row rfl _ _ (w.heap.size + 1) _ _ _ _ rfl kF Tryz.underlying53 rfl (by kernel_rfl)) rfl ⟨⟨_, _, _, _, _, _, rfl, ?_, ?_⟩, b02.out.trans (kk.below (by omega))⟩
    · have hN1' := hN1.out
      rw [hsz] at hN1'
      exact newB_row (base := w.heap.size) ((hN1'.kept (g := w.heap.size + 1) (fun b hb => by omega) kk).weaken (fun b _ hb => by have := hsz; have := b0.out.size; omega)) hn
    · exact newB_row (base := w.heap.size) ((hN2.out.kept (g := w.heap.size + 1) (fun b hb => by omega) kk).weaken (fun b _ hb => by have := hsz; have := b0.out.size; omega)) hsn

theorem u8_row {w : World} {lo : Nat} {a : Option Addr} {n c : Nat} {R : List Int} (hr : w.ownsRow lo 5 1 (.slice a n c) R.length (R.map (Value.int .u8))) (hw : Byt R) (h0 : 0 < R.length) : n = R.length ∧ NumsAt (fun b => lo ≤ b) .u8 w a n R ∧ n ≤ c ∧ c ≤ maxLen ∧ ∃ g, a = some ⟨g, 0, none⟩ ∧ lo ≤ g := by
  obtain ⟨a', c', hv, hc, hN⟩ := numsAt_own (fun x hx => wf_u8 (hw x hx)) hr
  simp only [Value.slice.injEq] at hv
  obtain ⟨rfl, rfl, rfl⟩ := hv
  have hbig := row_big hr
  rcases hr.2 with ⟨hv, h1⟩ | ⟨g, cap, cur, hv, hlo, _⟩
  · omega
  · simp only [Value.slice.injEq] at hv
    exact ⟨rfl, hN, hc, hbig, g, hv.1, hlo⟩
theorem slot_set (k : Int) (img : List Int) : (((headB k (img.length : Int) ++ [0, 0]) ++ img).set 7 (sumL (headB k (img.length : Int) ++ ([0, 0] ++ img)) / 256 % 256)).set 8 (sumL (headB k (img.length : Int) ++ ([0, 0] ++ img)) % 256) = slotB k img := rfl

set_option maxHeartbeats 2000000 in
set_option maxRecDepth 100000 in
theorem writeSlot_any (k : Int) (a : Option Addr) (n c : Nat) (img : List Int) (w : World) (hN : NumsAt (fun _ => True) .u8 w a n img) (hk0 : 0 ≤ k) (hk1 : k < 4294967296) (hn : n ≤ 20000) :
    Calls Tryz.prog 61 #[.int .u32 k, .slice a n c] w fun e w' => (∃ g m d, e = .returned (.slice (some ⟨g, 0, none⟩) m d) ∧ w.heap.size ≤ g ∧ m = 9 + n ∧ RowB w' (some ⟨g, 0, none⟩) m d (slotB k img)) ∧ Below w.heap.size w w' := by
  have hll := hN.1
  have hby : Byt img := fun z hz => by have := bounds_u8 (hN.2.1 z hz); omega
  have hhd : Byt ((headB k (n : Int) ++ [0, 0]) ++ img) := Byt.append (fun x hx => by
    simp only [headB, List.cons_append, List.nil_append, List.mem_cons, List.not_mem_nil, or_false] at hx
    rcases hx with rfl | rfl | rfl | rfl | rfl | rfl | rfl | rfl | rfl <;> omega) hby
  have bA := below_alloc w (.cells ((headB k (n : Int) ++ [0, 0]).map (Value.int .u8)).toArray 5)
  have hA : (w.alloc (.cells ((headB k (n : Int) ++ [0, 0]).map (Value.int .u8)).toArray 5)).ownsRow w.heap.size 5 1 (.slice (some ⟨w.heap.size, 0, none⟩) 9 9) 9 ((headB k (n : Int) ++ [0, 0]).map (Value.int .u8)) :=
    ⟨by simp [headB], .inr ⟨w.heap.size, 9, _, rfl, Nat.le_refl _, heap_alloc_new w _, Nat.le_refl _, by unfold maxLen; omega, by simp [headB], by simp [headB]⟩⟩
  obtain ⟨v2, w2, hrun, hrow2, hg2, hat2⟩ := run_append_u8 _ w.heap.size 28 _ _ _ hA a n c img (hN.below bA) (by simp) (by omega) (by omega)
  have hb2 : Below w.heap.size w w2 := ⟨hg2.os.trans bA.os, hg2.tape.trans bA.tape, hg2.output.trans bA.output, Nat.le_trans bA.size hg2.size, fun i hi => (hg2.block i (by simp; omega) (by simp [Value.ownBlock]; omega)).trans (bA.block i hi)⟩
  have hlen : ((headB k (n : Int) ++ [0, 0]) ++ img).length = 9 + n := by simp [headB, hll]; omega
  rw [← List.map_append, ← hlen] at hrow2
  obtain ⟨a2, m2, c2, rfl⟩ : ∃ a m c, v2 = .slice a m c := by
    rcases hrow2.2 with ⟨hv, _⟩ | ⟨g, cap, cur, hv, _⟩
    · exact ⟨_, _, _, hv⟩
    · exact ⟨_, _, _, hv⟩
  obtain ⟨hm2, hN2, hc2, hbig2, g, rfl, hlo⟩ := u8_row hrow2 hhd (by omega)
  rw [hlen] at hm2
  have hm2I : (m2 : Int) = 9 + (n : Int) := by omega
  have hi7 : (7 : Int) < (m2 : Int) := by omega
  have hi8 : (8 : Int) < (m2 : Int) := by omega
  have e1 : k / 16777216 % 256 = k / 16777216 := by omega
  have e2 : (n : Int) / 65536 % 256 = (n : Int) / 65536 := by omega
  have e3 : (n : Int) / 256 % 256 = (n : Int) / 256 := by omega
  simp only [headB, List.cons_append, List.nil_append, List.map_cons, List.map_nil, e1, e2, e3] at hrun
  clear e1 e2 e3
  replace hb2 := hid hb2
  replace hhd := hid hhd
  replace hN2 := hid hN2
  replace hrow2 := hid hrow2
  replace hlen := hid hlen
  replace hbig2 := hid hbig2
  replace hll := hid hll
  replace hm2 := hid hm2
  replace hby := hid hby
  clear hA bA hat2 hg2 hN
  go_enter Tryz.func61, Tryz.ntmps61
  go_wp2_with (at_builtin; refine Lib.wpList_append_run _ rfl _ _ _ _ rfl _ _ rfl rfl _ _ hrun ?_)
  refine (sum_any _ _ m2 c2 _ w2 hN2.out (by have := hm2.out; omega) hc2 hbig2.out).mono ?_
  rintro e w3 ⟨rfl, b3⟩
  have hsb := sumL_bd ((headB k (n : Int) ++ [0, 0]) ++ img)
  have hrow3 := row_below hrow2.out b3
  rw [hm2.out, ← hlen.out] at hrow3
  have hlen9 : ((headB k (n : Int) ++ [0, 0]) ++ img).length = 9 + n := hlen.out
  generalize hse : sumL ((headB k (n : Int) ++ [0, 0]) ++ img) = s at *
  have hrs : (.slice (some ⟨g, 0, none⟩) ((headB k (n : Int) ++ [0, 0]) ++ img).length c2 : Value) = .slice (some ⟨g, 0, none⟩) m2 c2 := by rw [hlen9, hm2.out]
  have h1 := hrow3.stored 7 (.int .u8 (s / 256))
  have h2 := h1.1.stored 8 (.int .u8 (s % 256))
  have c7 : w3.cell? ⟨g, 7, none⟩ = some (.int .u8 0) := (hrow3.cellAt 7 (by omega)).trans rfl
  have f7 := hrow3.frozenAt 7
  have c8 : w3.cell? ⟨g, 8, none⟩ = some (.int .u8 0) := (hrow3.cellAt 8 (by omega)).trans rfl
  have f8 := hrow3.frozenAt 8
  have hslot : Hid ((((headB k (n : Int) ++ [0, 0]) ++ img).set 7 (s / 256)).set 8 (s % 256) = slotB k img) := hid (by
    have e := slot_set k img
    rw [hll.out, ← List.append_assoc, hse, show s / 256 % 256 = s / 256 by omega] at e
    exact e)
  have hfin : Hid (∃ m d, m = m2 ∧ d = c2 ∧ RowB ((w3.setCell ⟨g, 7, none⟩ (.int .u8 (s / 256))).setCell ⟨g, 8, none⟩ (.int .u8 (s % 256))) (some ⟨g, 0, none⟩) m d (slotB k img)) := hid (by
    have h3 := h2.1
    rw [← List.map_set, ← List.map_set, hslot.out] at h3
    have hl2 : (slotB k img).length = ((headB k (n : Int) ++ [0, 0]) ++ img).length := by rw [slotB_len, hlen9, hll.out]
    rw [← hl2] at h3
    obtain ⟨e1, hN3, hc3, hb3, _⟩ := u8_row h3 (byt_slotB hby.out) (by rw [slotB_len]; omega)
    exact ⟨_, _, by rw [slotB_len, hll.out, hm2.out], rfl, ⟨hN3.weaken (fun _ _ _ => trivial), hc3, hb3, fun e => by cases e⟩⟩)
  have hbF := hid (((Below.tr hb2.out b3).setCell (p := ⟨g, 7, none⟩) hlo (.int .u8 (s / 256))).setCell (p := ⟨g, 8, none⟩) hlo (.int .u8 (s % 256)))
  replace hse := hid hse
  clear h1 h2 hrs hrow3 hlen9 b3 hrun hrow2 hN2
  go_wp2_with fail
  go_ret
  obtain ⟨m, d, rfl, rfl, hR⟩ := hfin.out
  exact ⟨⟨g, _, _, rfl, hlo, hm2.out, hR⟩, hbF.out⟩
end Go.Proofs.YtihkljfcplfldaaGreat

namespace Go.Proofs.YtihkljfcplfldaaGreat
open Go.RowKit

/-- a pool in memory that is new -/
def NewP (base : Nat) (w : World) (a : Option Addr) (n c : Nat) (ta : Option Addr) (tn tc : Nat) (bs : List Blk) (ts : List TenE) : Prop := n = bs.length ∧ ∃ lo, base ≤ lo ∧ PoolV lo (bs, ts) (.agg #[.slice a n c, .slice ta tn tc]) w
theorem NewP.is {base : Nat} {w : World} {a : Option Addr} {n c : Nat} {ta : Option Addr} {tn tc : Nat} {bs : List Blk} {ts : List TenE} (h : NewP base w a n c ta tn tc bs ts) : PoolAt (fun _ => True) w a n (blksOf bs) ta tn ts := by
  obtain ⟨_, lo, _, h⟩ := h
  exact h.is
theorem NewP.only {base : Nat} {w w' : World} {a : Option Addr} {n c : Nat} {ta : Option Addr} {tn tc : Nat} {bs : List Blk} {ts : List TenE} {K : Nat → Prop} (h : NewP base w a n c ta tn tc bs ts) (o : Only K w w') (hK : ∀ b, K b → b < base) : NewP base w' a n c ta tn tc bs ts := by
  obtain ⟨h0, lo, h1, h⟩ := h
  exact ⟨h0, lo, h1, h.only o (fun b hb f => by have := hK b f; omega)⟩
theorem NewP.below {base : Nat} {w w' : World} {a : Option Addr} {n c : Nat} {ta : Option Addr} {tn tc : Nat} {bs : List Blk} {ts : List TenE} (h : NewP base w a n c ta tn tc bs ts) (b : Below w.heap.size w w') : NewP base w' a n c ta tn tc bs ts := h.only (Only.of_below (M := fun _ => False) b) (fun _ f => f.elim)
theorem NewP.kept {base g : Nat} {w w' : World} {a : Option Addr} {n c : Nat} {ta : Option Addr} {tn tc : Nat} {bs : List Blk} {ts : List TenE} (h : NewP base w a n c ta tn tc bs ts) (k : Kept g w w') (hg : g < base) : NewP base w' a n c ta tn tc bs ts := h.only (Only.of_kept (M := fun k => k = g) k rfl) (fun b f => by omega)
theorem NewP.mono {base base' : Nat} {w : World} {a : Option Addr} {n c : Nat} {ta : Option Addr} {tn tc : Nat} {bs : List Blk} {ts : List TenE} (h : NewP base w a n c ta tn tc bs ts) (hb : base' ≤ base) : NewP base' w a n c ta tn tc bs ts := by
  obtain ⟨h0, lo, h1, h⟩ := h
  exact ⟨h0, lo, by omega, h⟩
theorem RetR8.uni {base : Nat} {e : Ending} {w : World} {b : List Int} (h : RetR8 base e w b) : ∃ (a : Option Addr) (n c : Nat) (ta : Option Addr) (tn tc : Nat) (e' : Int), e = .returned (.tuple #[.agg #[.slice a n c, .slice ta tn tc], .int .i64 e']) ∧ (e' = 0 → ∃ bs ts, poolP b = some ((bs, ts), []) ∧ OkL bs ts ∧ NewP base w a n c ta tn tc bs ts) ∧ (e' ≠ 0 → ∀ bs ts, b.length ≤ 20000 → poolP b = some ((bs, ts), []) → ¬ OkL bs ts) := by
  rcases h with ⟨e', rfl, he, h1, h2⟩ | ⟨bs, ts, a, n, c, ta, tn, tc, rfl, hp, hok, hn, hP⟩
  · exact ⟨none, 0, 0, none, 0, 0, e', rfl, fun h => absurd h he, fun _ => h1⟩
  · exact ⟨a, n, c, ta, tn, tc, 0, rfl, fun _ => ⟨bs, ts, hp, hok, hn, hP⟩, fun h => absurd rfl h⟩
/-- what a slot says -/
def RetSl (base : Nat) (e : Ending) (w : World) (l : List Int) : Prop := ∃ (k : Int) (a : Option Addr) (n c : Nat) (ta : Option Addr) (tn tc : Nat) (ok : Bool),
  e = .returned (.tuple #[.agg #[.int .u32 k, .slice a n c, .slice ta tn tc], .bool ok]) ∧
    ((ok = true ∧ (0 ≤ k ∧ k < 4294967296) ∧ ∃ bs ts, Whole l k bs ts ∧ NewP base w a n c ta tn tc bs ts) ∨ (ok = false ∧ k = 0 ∧ (a = none ∧ n = 0 ∧ c = 0 ∧ ta = none ∧ tn = 0 ∧ tc = 0) ∧ ∀ k' bs ts, ¬ Whole l k' bs ts))
theorem retSl_no {base : Nat} {w : World} {l : List Int} (h : ∀ k' bs ts, ¬ Whole l k' bs ts) : RetSl base (.returned (.tuple #[.agg #[.int .u32 0, .slice none 0 0, .slice none 0 0], .bool false])) w l := ⟨0, none, 0, 0, none, 0, 0, false, rfl, .inr ⟨rfl, rfl, ⟨rfl, rfl, rfl, rfl, rfl, rfl⟩, h⟩⟩

set_option maxHeartbeats 4000000 in
set_option maxRecDepth 100000 in
theorem readSlot_any (a : Option Addr) (n c : Nat) (l : List Int) (w : World) (h : RowB w a n c l) :
    Calls Tryz.prog 64 #[.slice a n c] w fun e w' => RetSl w.heap.size e w' l ∧ Below w.heap.size w w' := by
  have hll := h.nums.1
  have b0 := hid (below_alloc w (.cells #[.int .u32 0, .slice none 0 0, .slice none 0 0] 98))
  have k0 : CellsAt _ w.heap.size #[.int .u32 0, .slice none 0 0, .slice none 0 0] 98 := cellsAt_alloc w _ _
  have hsz : (w.alloc (.cells #[.int .u32 0, .slice none 0 0, .slice none 0 0] 98)).heap.size = w.heap.size + 1 := by simp
  have hcap := h.cap
  have hbig := h.big
  have hbigI : (c : Int) ≤ 9223372036854775807 := by unfold maxLen at hbig; omega
  have hBy : Hid (Byt l) := hid (fun z hz => by have := bounds_u8 (h.nums.2.1 z hz); omega)
  replace hbig := hid hbig
  by_cases h9 : n < 9
  · have h9I : (n : Int) < 9 := by omega
    have hno := hid (retSl_no (base := w.heap.size) (w := put3v (w.alloc (.cells #[.int .u32 0, .slice none 0 0, .slice none 0 0] 98)) w.heap.size (.int .u32 0) (.slice none 0 0) (.slice none 0 0)) (l := l) (fun k' bs ts f => by have := f.1; omega))
    go_enter Tryz.func64, Tryz.ntmps64
    go_upto_if 9 with fail
    generalize w.alloc (.cells #[.int .u32 0, .slice none 0 0, .slice none 0 0] 98) = w0 at *
    have p0 := k0.cell 0
    have p1 := k0.cell 1
    have p2 := k0.cell 2
    have z0 := k0.frozen 0
    have z1 := k0.frozen 1
    have z2 := k0.frozen 2
    simp only [List.getElem?_toArray, List.getElem?_cons_zero, List.getElem?_cons_succ] at p0 p1 p2
    have kk := hid (kept_put3v w0 w.heap.size (.int .u32 0) (.slice none 0 0) (.slice none 0 0))
    go_wp2_with fail
    refine bodyPost_ret (v := .tuple #[.agg #[.int .u32 0, .slice none 0 0, .slice none 0 0], .bool false]) (by rw [results_cell_tmp rfl]; go_simp) rfl ⟨hno.out, b0.out.trans (kk.out.below (Nat.le_refl _))⟩
  have h9I : ¬ (n : Int) < 9 := by omega
  have h9J : (9 : Int) ≤ (n : Int) := by omega
  have hnc : (n : Int) ≤ (c : Int) := by omega
  obtain ⟨xb, xo, rfl, _⟩ := h.nums.2.2 (by omega)
  have hN := h.nums.below b0.out
  have hN4 := nums_take (nums_drop hN (n := 4) (by omega)) (n := 3) (by omega)
  rw [show (⟨xb, xo, none⟩ : Addr).add 4 = ⟨xb, xo + 4, none⟩ by simp [Addr.add]] at hN4
  have hL0 := numF_bd 3 (l.drop 4) (fun x hx => hBy.out x (List.mem_of_mem_drop hx)) (by rw [List.length_drop]; omega) (by omega)
  obtain ⟨L, hL⟩ : ∃ L : Nat, numF ((l.drop 4).take 3) = (L : Int) := ⟨(numF ((l.drop 4).take 3)).toNat, by have := hL0.1; omega⟩
  have hLb : (L : Int) < 16777216 := by rw [← hL]; exact hL0.2.1 (by omega)
  replace hN := hid hN
  replace hN4 := hid hN4
  replace hll := hid hll
  clear hL0
  go_enter Tryz.func64, Tryz.ntmps64
  go_upto_if 9 with fail
  generalize w.alloc (.cells #[.int .u32 0, .slice none 0 0, .slice none 0 0] 98) = w0 at *
  replace k0 := hid k0
  go_wp2_with fail
  refine (dnum_any _ _ 3 _ _ w0 hN4.out (by omega)).mono ?_
  rintro e w1 ⟨rfl, rfl⟩
  rw [hL]
  replace hL := hid hL
  by_cases hgt : (n : Int) - 9 < (L : Int)
  · have hno := hid (retSl_no (base := w.heap.size) (w := put3v w1 w.heap.size (.int .u32 0) (.slice none 0 0) (.slice none 0 0)) (l := l) (fun k' bs ts f => by
      obtain ⟨_, M, f1, f2, _⟩ := f
      rw [hL.out] at f1
      have := hll.out
      omega))
    have p0 := k0.out.cell 0
    have p1 := k0.out.cell 1
    have p2 := k0.out.cell 2
    have z0 := k0.out.frozen 0
    have z1 := k0.out.frozen 1
    have z2 := k0.out.frozen 2
    simp only [List.getElem?_toArray, List.getElem?_cons_zero, List.getElem?_cons_succ] at p0 p1 p2
    have kk := hid (kept_put3v w1 w.heap.size (.int .u32 0) (.slice none 0 0) (.slice none 0 0))
    go_wp2_with fail
    refine bodyPost_ret (v := .tuple #[.agg #[.int .u32 0, .slice none 0 0, .slice none 0 0], .bool false]) (by rw [results_cell_tmp rfl]; go_simp) rfl ⟨hno.out, b0.out.trans (kk.out.below (Nat.le_refl _))⟩
  have hle : 9 + L ≤ n := by omega
  have hNs := nums_take hN.out (n := 9 + L) hle
  have hN7 := nums_take (nums_drop hN.out (n := 7) (by omega)) (n := 2) (by omega)
  rw [show (⟨xb, xo, none⟩ : Addr).add 7 = ⟨xb, xo + 7, none⟩ by simp [Addr.add]] at hN7
  replace hNs := hid hNs
  replace hN7 := hid hN7
  replace hle := hid hle
  replace h9 := hid h9
  have hdec : decide ((n : Int) - 9 < (L : Int)) = false := decide_eq_false hgt
  replace hgt := hid hgt
  go_upto_region 6 with fail
  have hleI : (9 : Int) + (L : Int) ≤ (c : Int) := by have := hle.out; omega
  clear hdec
  go_wp2_with fail
  refine (dnum_any _ _ 2 _ _ w1 hN7.out (by omega)).mono ?_
  rintro e w2 ⟨rfl, rfl⟩
  go_wp2_with fail
  refine (sum_any _ _ (9 + L) c _ w2 hNs.out (by omega) (by have := hle.out; omega) hbig.out).mono ?_
  rintro e w3 ⟨rfl, b3⟩
  have hN4b := nums_take (hNs.out.below b3) (n := 4) (by omega)
  rw [List.take_take, show min 4 (9 + L) = 4 by omega] at hN4b
  replace hN4b := hid hN4b
  replace hNs := hid (hNs.out.below b3)
  replace k0 := hid (k0.out.below b3)
  replace b0 := hid (Below.tr b0.out b3)
  clear b3 hN hN4 hN7
  clear hsz hLb h9I h9J hnc h
  replace hleI := hid hleI
  replace hbigI := hid hbigI
  replace hcap := hid hcap
  generalize hP : numF ((l.drop 7).take 2) = P at *
  generalize hQ : sumL (l.take (9 + L)) = Q at *
  replace hP := hid hP
  replace hQ := hid hQ
  by_cases hsum : P = Q
  · have hs' : (P == Q) = true := by simp [hsum]
    replace hsum := hid hsum
    have hRd : ∃ ad : Addr, (c = 9 → ad = ⟨xb, xo, none⟩) ∧ (c ≠ 9 → ad = ⟨xb, xo + 9, none⟩) ∧ NumsAt (fun _ => True) .u8 w3 (some ad) L ((l.drop 9).take L) := by
      by_cases hc9 : c = 9
      · refine ⟨_, fun _ => rfl, fun f => absurd hc9 f, ?_⟩
        obtain rfl : L = 0 := by have := hle.out; have := hcap.out; omega
        exact numsAt_nil _ _ _ _
      · refine ⟨_, fun f => absurd f hc9, fun _ => rfl, ?_⟩
        have := nums_drop hNs.out (n := 9) (by omega)
        rw [show (⟨xb, xo, none⟩ : Addr).add 9 = ⟨xb, xo + 9, none⟩ by simp [Addr.add], List.drop_take, show 9 + L - 9 = L by omega] at this
        exact this
    obtain ⟨ad, had1, had2, hRd⟩ := hRd
    replace hRd := hid hRd
    have hlt3 := k0.out.lt
    replace hlt3 := hid hlt3
    by_cases hc9 : c = 9
    · have hadE := had1 hc9
      subst hadE
      clear had1 had2
      have hL0 : Hid (L = 0) := hid (by have := hle.out; have := hcap.out; omega)
      subst hc9
      go_upto_region 9 with fail
      have hleK : (9 : Int) + (L : Int) ≤ 9 := by have := hL0.out; omega
      go_wp2_with fail
      refine (read_new _ _ L 0 _ w3 hRd.out (by have := hL0.out; omega) (Nat.zero_le _) (fun e => by cases e)).mono ?_
      clear hleK
      rintro e w4 ⟨hr4, b4⟩
      obtain ⟨qa, qn, qc, ua, un, uc, e1, rfl, hq1, hq2⟩ := hr4.uni
      have bA := hid (below_alloc w4 (.cells #[.slice qa qn qc, .slice ua un uc] 27))
      have kA : Hid (CellsAt _ w4.heap.size #[.slice qa qn qc, .slice ua un uc] 27) := hid (cellsAt_alloc w4 _ _)
      replace k0 := hid ((k0.out.below b4).below bA.out)
      replace hN4b := hid ((hN4b.out.below b4).below bA.out)
      replace b0 := hid (Below.tr (Below.tr b0.out b4) bA.out)
      replace hq1 := hid hq1
      replace hq2 := hid hq2
      have hs4 : w.heap.size < w4.heap.size := Nat.lt_of_lt_of_le hlt3.out b4.size
      clear hr4 b4 hRd
      go_upto_if 39 with fail
      generalize w4.alloc (.cells #[.slice qa qn qc, .slice ua un uc] 27) = w5 at *
      have p0 := k0.out.cell 0
      have p1 := k0.out.cell 1
      have p2 := k0.out.cell 2
      have z0 := k0.out.frozen 0
      have z1 := k0.out.frozen 1
      have z2 := k0.out.frozen 2
      simp only [List.getElem?_toArray, List.getElem?_cons_zero, List.getElem?_cons_succ] at p0 p1 p2
      by_cases h1 : e1 = 0
      · subst h1
        obtain ⟨bs, ts, hp, hok, hPq⟩ := hq1.out rfl
        have t0 := kA.out.cell 0
        have t1 := kA.out.cell 1
        simp only [List.getElem?_toArray, List.getElem?_cons_zero, List.getElem?_cons_succ] at t0 t1
        have hk4 := numF_bd 4 l hBy.out (by rw [hll.out]; have := hle.out; omega) (by omega)
        have hWh : Hid (Whole l (numF (l.take 4)) bs ts) := hid (by
          have hle' := hle.out
          have hll' := hll.out
          refine ⟨by omega, L, hL.out, by omega, ?_, rfl, ?_, hp, hok⟩
          · rw [hP.out, hQ.out]; exact hsum.out
          · have hby2 : Byt ((l.drop 9).take L) := fun x hx => hBy.out x (List.mem_of_mem_drop (List.mem_of_mem_take hx))
            have e := poolP_dec hby2 hp
            have e2 := poolB_le hok
            rw [poolB_of] at e2
            have e3 : ((l.drop 9).take L).length = L := by rw [List.length_take, List.length_drop]; omega
            rw [e, List.append_nil] at e3
            omega)
        have hPF : Hid (NewP w.heap.size (put3v w5.drew w.heap.size (.int .u32 (numF (l.take 4))) (.slice qa qn qc) (.slice ua un uc)) qa qn qc ua un uc bs ts) := hid ((((hPq.below bA.out).below (below_drew _ _)).kept (kept_put3v w5.drew w.heap.size (.int .u32 (numF (l.take 4))) (.slice qa qn qc) (.slice ua un uc)) hlt3.out).mono (Nat.le_of_lt hlt3.out))
        have kk := hid (kept_put3v w5.drew w.heap.size (.int .u32 (numF (l.take 4))) (.slice qa qn qc) (.slice ua un uc))
        replace hok := hid hok
        replace hp := hid hp
        replace hk4 := hid hk4
        clear hPq
        go_upto_region 12 with fail
        go_region_with (go_at_call 89; refine Calls.mono (dnum_any (fun _ => True) _ 4 _ _ _ (hN4b.out.below (below_drew _ _)) (by omega)) ?_; rintro e w6 ⟨rfl, rfl⟩)
        all_goals (
          go_wp2_with fail
          refine bodyPost_ret (v := .tuple #[.agg #[.int .u32 (numF (l.take 4)), .slice qa qn qc, .slice ua un uc], .bool true]) (by rw [results_cell_tmp rfl]; go_simp) rfl ⟨⟨_, _, _, _, _, _, _, true, rfl, .inl ⟨rfl, ⟨hk4.out.1, hk4.out.2.2⟩, bs, ts, hWh.out, hPF.out⟩⟩, (b0.out.trans (below_drew _ _)).trans (kk.out.below (Nat.le_refl _))⟩)
      · have h1' : (e1 == 0) = false := by simp [h1]
        have hno := hid (retSl_no (base := w.heap.size) (w := put3v w5 w.heap.size (.int .u32 0) (.slice none 0 0) (.slice none 0 0)) (l := l) (fun k' bs ts f => by
          obtain ⟨_, M, f1, _, _, _, f5, f6, f7⟩ := f
          rw [hL.out] at f1
          obtain rfl : L = M := by omega
          exact hq2.out h1 bs ts (by rw [List.length_take]; omega) f6 f7))
        have kk := hid (kept_put3v w5 w.heap.size (.int .u32 0) (.slice none 0 0) (.slice none 0 0))
        go_wp2_with fail
        refine bodyPost_ret (v := .tuple #[.agg #[.int .u32 0, .slice none 0 0, .slice none 0 0], .bool false]) (by rw [results_cell_tmp rfl]; go_simp) rfl ⟨hno.out, b0.out.trans (kk.out.below (Nat.le_refl _))⟩
    · have hadE := had2 hc9
      subst hadE
      clear had1 had2
      go_upto_region 9 with fail
      replace hleI := hleI.out
      replace hbigI := hbigI.out
      go_wp2_with fail
      refine (read_new _ _ L (c - 9) _ w3 hRd.out (by have := hle.out; have := hcap.out; omega) (by have := hbig.out; omega) (fun e => by cases e)).mono ?_
      replace hleI := hid hleI
      replace hbigI := hid hbigI
      rintro e w4 ⟨hr4, b4⟩
      obtain ⟨qa, qn, qc, ua, un, uc, e1, rfl, hq1, hq2⟩ := hr4.uni
      have bA := hid (below_alloc w4 (.cells #[.slice qa qn qc, .slice ua un uc] 27))
      have kA : Hid (CellsAt _ w4.heap.size #[.slice qa qn qc, .slice ua un uc] 27) := hid (cellsAt_alloc w4 _ _)
      replace k0 := hid ((k0.out.below b4).below bA.out)
      replace hN4b := hid ((hN4b.out.below b4).below bA.out)
      replace b0 := hid (Below.tr (Below.tr b0.out b4) bA.out)
      replace hq1 := hid hq1
      replace hq2 := hid hq2
      have hs4 : w.heap.size < w4.heap.size := Nat.lt_of_lt_of_le hlt3.out b4.size
      clear hr4 b4 hRd
      go_upto_if 39 with fail
      generalize w4.alloc (.cells #[.slice qa qn qc, .slice ua un uc] 27) = w5 at *
      have p0 := k0.out.cell 0
      have p1 := k0.out.cell 1
      have p2 := k0.out.cell 2
      have z0 := k0.out.frozen 0
      have z1 := k0.out.frozen 1
      have z2 := k0.out.frozen 2
      simp only [List.getElem?_toArray, List.getElem?_cons_zero, List.getElem?_cons_succ] at p0 p1 p2
      by_cases h1 : e1 = 0
      · subst h1
        obtain ⟨bs, ts, hp, hok, hPq⟩ := hq1.out rfl
        have t0 := kA.out.cell 0
        have t1 := kA.out.cell 1
        simp only [List.getElem?_toArray, List.getElem?_cons_zero, List.getElem?_cons_succ] at t0 t1
        have hk4 := numF_bd 4 l hBy.out (by rw [hll.out]; have := hle.out; omega) (by omega)
        have hWh : Hid (Whole l (numF (l.take 4)) bs ts) := hid (by
          have hle' := hle.out
          have hll' := hll.out
          refine ⟨by omega, L, hL.out, by omega, ?_, rfl, ?_, hp, hok⟩
          · rw [hP.out, hQ.out]; exact hsum.out
          · have hby2 : Byt ((l.drop 9).take L) := fun x hx => hBy.out x (List.mem_of_mem_drop (List.mem_of_mem_take hx))
            have e := poolP_dec hby2 hp
            have e2 := poolB_le hok
            rw [poolB_of] at e2
            have e3 : ((l.drop 9).take L).length = L := by rw [List.length_take, List.length_drop]; omega
            rw [e, List.append_nil] at e3
            omega)
        have hPF : Hid (NewP w.heap.size (put3v w5.drew w.heap.size (.int .u32 (numF (l.take 4))) (.slice qa qn qc) (.slice ua un uc)) qa qn qc ua un uc bs ts) := hid ((((hPq.below bA.out).below (below_drew _ _)).kept (kept_put3v w5.drew w.heap.size (.int .u32 (numF (l.take 4))) (.slice qa qn qc) (.slice ua un uc)) hlt3.out).mono (Nat.le_of_lt hlt3.out))
        have kk := hid (kept_put3v w5.drew w.heap.size (.int .u32 (numF (l.take 4))) (.slice qa qn qc) (.slice ua un uc))
        replace hok := hid hok
        replace hp := hid hp
        replace hk4 := hid hk4
        clear hPq
        have h4c : (4 : Int) ≤ (c : Int) := by have := hle.out; have := hcap.out; omega
        go_upto_region 12 with fail
        go_region_with (go_at_call 89; refine Calls.mono (dnum_any (fun _ => True) _ 4 _ _ _ (hN4b.out.below (below_drew _ _)) (by omega)) ?_; rintro e w6 ⟨rfl, rfl⟩)
        all_goals (
          go_wp2_with fail
          refine bodyPost_ret (v := .tuple #[.agg #[.int .u32 (numF (l.take 4)), .slice qa qn qc, .slice ua un uc], .bool true]) (by rw [results_cell_tmp rfl]; go_simp) rfl ⟨⟨_, _, _, _, _, _, _, true, rfl, .inl ⟨rfl, ⟨hk4.out.1, hk4.out.2.2⟩, bs, ts, hWh.out, hPF.out⟩⟩, (b0.out.trans (below_drew _ _)).trans (kk.out.below (Nat.le_refl _))⟩)
      · have h1' : (e1 == 0) = false := by simp [h1]
        have hno := hid (retSl_no (base := w.heap.size) (w := put3v w5 w.heap.size (.int .u32 0) (.slice none 0 0) (.slice none 0 0)) (l := l) (fun k' bs ts f => by
          obtain ⟨_, M, f1, _, _, _, f5, f6, f7⟩ := f
          rw [hL.out] at f1
          obtain rfl : L = M := by omega
          exact hq2.out h1 bs ts (by rw [List.length_take]; omega) f6 f7))
        have kk := hid (kept_put3v w5 w.heap.size (.int .u32 0) (.slice none 0 0) (.slice none 0 0))
        go_wp2_with fail
        refine bodyPost_ret (v := .tuple #[.agg #[.int .u32 0, .slice none 0 0, .slice none 0 0], .bool false]) (by rw [results_cell_tmp rfl]; go_simp) rfl ⟨hno.out, b0.out.trans (kk.out.below (Nat.le_refl _))⟩
  · have hs' : (P == Q) = false := by simp [hsum]
    have hno := hid (retSl_no (base := w.heap.size) (w := put3v w3 w.heap.size (.int .u32 0) (.slice none 0 0) (.slice none 0 0)) (l := l) (fun k' bs ts f => by
      obtain ⟨_, M, f1, _, f3, _⟩ := f
      rw [hL.out] at f1
      obtain rfl : L = M := by omega
      exact hsum (by rw [← hP.out, ← hQ.out]; exact f3)))
    replace hsum := hid hsum
    have p0 := k0.out.cell 0
    have p1 := k0.out.cell 1
    have p2 := k0.out.cell 2
    have z0 := k0.out.frozen 0
    have z1 := k0.out.frozen 1
    have z2 := k0.out.frozen 2
    simp only [List.getElem?_toArray, List.getElem?_cons_zero, List.getElem?_cons_succ] at p0 p1 p2
    have kk := hid (kept_put3v w3 w.heap.size (.int .u32 0) (.slice none 0 0) (.slice none 0 0))
    go_wp2_with fail
    refine bodyPost_ret (v := .tuple #[.agg #[.int .u32 0, .slice none 0 0, .slice none 0 0], .bool false]) (by rw [results_cell_tmp rfl]; go_simp) rfl ⟨hno.out, b0.out.trans (kk.out.below (Nat.le_refl _))⟩
end Go.Proofs.YtihkljfcplfldaaGreat
