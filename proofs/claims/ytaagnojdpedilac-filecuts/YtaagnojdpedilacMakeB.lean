/-
  Contracts of blocks.Make and what it calls. Nothing here is trusted.
-/
import Derived.Test.YtaagnojdpedilacDropS
set_option linter.unusedVariables false
namespace Go.Proofs.Ytaagnojdpedilac
open Go.RowKit

theorem isFree_any (r lv : Int) (ka : Option Addr) (kn kc : Nat) (ba : Option Addr) (bn bc : Nat) (w : World) :
    Calls Try.prog 115 #[.agg #[.int .i64 r, .int .i64 lv, .slice ka kn kc, .slice ba bn bc]] w fun e w' => e = .returned (.bool (r == 0)) ∧ Below w.heap.size w w' := by
  go_enter Try.func115, Try.ntmps115
  go_wp2_with fail
  go_ret
  exact ⟨rfl, below_alloc _ _⟩

/-- it answers the first place that is free, or none -/
def RetIx (e : Ending) (n : Nat) (B : Nat → Blk) : Prop :=
  (e = .returned (.int .i64 (-1)) ∧ ∀ k, k < n → (B k).refs ≠ 0) ∨ (∃ i : Nat, i < n ∧ e = .returned (.int .i64 i) ∧ (B i).refs = 0 ∧ ∀ k, k < i → (B k).refs ≠ 0)

set_option maxHeartbeats 1000000 in
set_option maxRecDepth 100000 in
theorem indexFree_any (a : Option Addr) (n c : Nat) (B : Nat → Blk) (w : World) (hn : n ≤ 400) (h : StoreAt w a n B) :
    Calls Try.prog 70 #[.slice a n c, .func (.func 115) #[] #[]] w fun e w' => RetIx e n B ∧ Below w.heap.size w w' := by
  go_enter Try.func70, Try.ntmps70
  go_wp2_with fail
  go_loopw [8] (fun v wr => ∃ i : Nat, i ≤ n ∧ v = .int .i64 i ∧ (∀ k, k < i → (B k).refs ≠ 0) ∧ Below w.heap.size w wr) (fun v _ => n - (Go.RowKit.intOf v).toNat)
  case atStart => exact ⟨0, Nat.zero_le _, rfl, fun k hk => absurd hk (by omega), Below.refl _ _⟩
  case round =>
    obtain ⟨i, hin, rfl, hno, hbel⟩ := hrel
    replace hno := hid hno
    by_cases hlt : i < n
    · obtain ⟨b, off, rfl, hb, hB⟩ := (h.below hbel) (by omega)
      obtain ⟨ka, kn, kc, ba, bn, bc, hblk⟩ := hB i hlt
      have c0 := hblk.c0
      have c1 := hblk.c1
      have c2 := hblk.c2
      have c3 := hblk.c3
      clear hB hblk
      generalize hrf : (B i).refs = rf at *
      replace hrf := hid hrf
      generalize (B i).level = lv at *
      go_wp2_with fail
      refine (isFree_any rf lv ka kn kc ba bn bc wr).mono ?_
      rintro e w1 ⟨rfl, b1⟩
      replace hbel := Below.tr hbel b1
      by_cases h0 : rf = 0
      · have h0' : (rf == 0) = true := by simp [h0]
        go_wp2_with fail
        go_ret
        exact ⟨.inr ⟨i, hlt, rfl, by rw [hrf.out]; exact h0, hno.out⟩, hbel⟩
      · have h0' : (rf == 0) = false := by simp [h0]
        go_wp2_with fail
        go_roundw
        case rel =>
          refine ⟨i + 1, by omega, by go_num, fun k hk => ?_, hbel⟩
          rcases Nat.lt_or_ge k i with h' | h'
          · exact hno.out k h'
          · obtain rfl : k = i := by omega
            rw [hrf.out]; exact h0
        case measure => simp [Go.RowKit.intOf]; omega
    · obtain rfl : i = n := by omega
      go_wp2_with fail
      go_ret
      exact ⟨.inl ⟨rfl, hno.out⟩, hbel⟩

/-- what Make refuses not -/
def Makeable (n : Nat) (B : Nat → Blk) (K : Blk) : Prop := Right n B ∧ Form n B { K with refs := 1 } ∧ ∃ i, i < n ∧ (B i).refs = 0

/-- the store with K at place i, and its kids held once more -/
def made (B : Nat → Blk) (K : Blk) (i : Nat) : Nat → Blk := fun k => if k = i then { K with refs := 1 } else { B k with refs := (B k).refs + (K.kids.count ((k : Int) + 1) : Int) }

/-- when j of the kids are held once more -/
def bump (B : Nat → Blk) (ks : List Int) (j : Nat) : Nat → Blk := fun k => { B k with refs := (B k).refs + ((ks.take j).count ((k : Int) + 1) : Int) }
theorem bump_zero (B : Nat → Blk) (ks : List Int) : bump B ks 0 = B := by
  funext k; unfold bump; simp
theorem bump_skip (B : Nat → Blk) (ks : List Int) (j : Nat) (hj : j < ks.length) (h : ks.getD j 0 = 0) : bump B ks (j + 1) = bump B ks j := by
  funext k; unfold bump
  rw [take_snoc hj, List.count_append, h, List.count_cons_of_ne (by omega)]
  simp
theorem bump_next (B : Nat → Blk) (ks : List Int) (j m : Nat) (hj : j < ks.length) (h : ks.getD j 0 = (m : Int) + 1) : bump B ks (j + 1) = upd (bump B ks j) m { bump B ks j m with refs := (bump B ks j m).refs + 1 } := by
  funext k
  unfold upd
  by_cases e : k = m
  · subst e
    rw [if_pos rfl]
    unfold bump
    rw [take_snoc hj, List.count_append, h]
    simp; omega
  · rw [if_neg e]
    unfold bump
    rw [take_snoc hj, List.count_append, h, List.count_cons_of_ne (by omega)]
    simp
theorem bump_bd {n : Nat} (B : Nat → Blk) (ks : List Int) (j : Nat) (h : ∀ k, k < n → 0 ≤ (B k).refs ∧ (B k).refs ≤ 1000000) : ∀ k, k < n → 0 ≤ (bump B ks j k).refs ∧ (bump B ks j k).refs ≤ 1000000 + (ks.length : Int) := by
  intro k hk
  have h1 := h k hk
  have h2 : (ks.take j).count ((k : Int) + 1) ≤ (ks.take j).length := List.count_le_length
  simp at h2
  show 0 ≤ (B k).refs + ((ks.take j).count ((k : Int) + 1) : Int) ∧ (B k).refs + ((ks.take j).count ((k : Int) + 1) : Int) ≤ _
  omega
theorem bump_made (B : Nat → Blk) (K : Blk) (i n : Nat) (hi : i < n) (h0 : (B i).refs = 0) (hF : Form n B { K with refs := 1 }) (k : Nat) : bump (upd B i { K with refs := 1 }) K.kids K.kids.length k = made B K i k := by
  unfold bump made
  rw [List.take_length]
  by_cases e : k = i
  · subst e
    rw [upd_same, if_pos rfl]
    have : K.kids.count ((k : Int) + 1) = 0 := by
      apply List.count_eq_zero.2
      intro hm
      rcases hF.kids _ hm with h | ⟨⟨_, _, h⟩, _⟩
      · omega
      · rw [show ((k : Int) + 1 - 1).toNat = k by omega] at h; exact h h0
    rw [this]; simp
  · rw [upd_other _ _ _ _ e, if_neg e]

theorem put_own {w4 w5 : World} {p : Addr} {g n i : Nat} {B : Nat → Blk} (h : OwnPtr w4 p g n B) (b5 : Below w4.heap.size w4 w5) (hi : i < n) (K : Blk) {ka : Option Addr} {kn kc : Nat} {ba : Option Addr} {bn bc : Nat}
    (hK : NumsAt (fun b => w4.heap.size ≤ b) .i64 w5 ka kn K.kids) (hB : NumsAt (fun b => w4.heap.size ≤ b) .u8 w5 ba bn K.bytes) (hr : -9223372036854775808 ≤ K.refs ∧ K.refs ≤ 9223372036854775807) (hl : -9223372036854775808 ≤ K.level ∧ K.level ≤ 9223372036854775807) (hc : kn ≤ kc ∧ bn ≤ bc) :
    OwnPtr (put4 w5 g (i * 4) (.int .i64 K.refs) (.int .i64 K.level) (.slice ka kn kc) (.slice ba bn bc)) p g n (upd B i K) := by
  have hlt := h.own.lt
  have h5 := h.below b5
  exact h5.kept (kept_put4 _ _ _ _ _ _ _) (h5.own.put hi K ka kn kc ba bn bc (hK.weaken fun b _ h => by omega) (hB.weaken fun b _ h => by omega) hr hl hc)
theorem put_cells {w5 : World} {g o q : Nat} {cs : Array Value} {t : TypeId} {v0 v1 v2 v3 : Value} (k : CellsAt w5 q cs t) (hq : q ≠ g) : CellsAt (put4 w5 g o v0 v1 v2 v3) q cs t := by
  unfold CellsAt
  rw [(kept_put4 w5 g o v0 v1 v2 v3).block q hq]
  exact k
theorem put_out {w w4 w5 : World} {g o : Nat} {v0 v1 v2 v3 : Value} (b1 : Below w.heap.size w w4) (b5 : Below w4.heap.size w4 w5) (_ : w.heap.size < w4.heap.size) : Out g w (put4 w5 g o v0 v1 v2 v3) :=
  (Out.of_below (Below.tr b1 b5)).trans (Out.of_kept (kept_put4 w5 g o v0 v1 v2 v3))

/-- why Make makes none: where all is right none is free -/
def NotMade (n : Nat) (B : Nat → Blk) (K : Blk) (e' : Int) : Prop := ¬ Makeable n B K ∧ (Right n B → Form n B { K with refs := 1 } → e' = 8)

/-- what Make in one's own store answers -/
def Made (e : Ending) (p : Addr) (g n : Nat) (B : Nat → Blk) (K : Blk) (w : World) : Prop :=
  (∃ e' : Int, e = .returned (.tuple #[.int .i64 0, .int .i64 e']) ∧ e' ≠ 0 ∧ NotMade n B K e') ∨
  (∃ i : Nat, i < n ∧ e = .returned (.tuple #[.int .i64 ((i : Int) + 1), .int .i64 0]) ∧ Makeable n B K ∧ (B i).refs = 0 ∧ (∀ k, k < i → (B k).refs ≠ 0) ∧ OwnPtr w p g n (made B K i))

set_option maxHeartbeats 2000000 in
set_option maxRecDepth 100000 in
theorem make_any (p : Addr) (g n : Nat) (B : Nat → Blk) (K : Blk) (ka : Option Addr) (kn kc : Nat) (ba : Option Addr) (bn bc : Nat) (Q : Nat → Prop) (w : World) (h : OwnPtr w p g n B)
    (hQ : ∀ b, Q b → b ≠ g) (hk : NumsAt Q .i64 w ka kn K.kids) (hb : NumsAt Q .u8 w ba bn K.bytes) (hl : -9223372036854775808 ≤ K.level ∧ K.level ≤ 9223372036854775807) (hcc : kn ≤ kc ∧ bn ≤ bc) :
    Calls Try.prog 98 #[.pointer (some p), .agg #[.int .i64 K.refs, .int .i64 K.level, .slice ka kn kc, .slice ba bn bc]] w fun e w' => Made e p g n B K w' ∧ Out g w w' := by
  have hg0 : g < w.heap.size := h.own.lt
  have b0 := below_alloc w (.cells #[.int .i64 K.refs, .int .i64 K.level, .slice ka kn kc, .slice ba bn bc] 70)
  have k0 := cellsAt_alloc w #[.int .i64 K.refs, .int .i64 K.level, .slice ka kn kc, .slice ba bn bc] 70
  replace k0 := hid k0
  replace hk := hid hk
  replace hb := hid hb
  replace h := hid h
  replace hQ := hid hQ
  go_enter Try.func98, Try.ntmps98
  go_wp2_with fail
  generalize w.alloc (.cells #[.int .i64 K.refs, .int .i64 K.level, .slice ka kn kc, .slice ba bn bc] 70) = w0 at *
  refine (check_any p _ n n B w0 (h.out.below b0).ptr).mono ?_
  rintro e w1 ⟨⟨e', rfl, he⟩, b1⟩
  replace k0 := k0.out.below b1
  replace b1 := Below.tr b0 b1
  clear b0
  replace he := hid he
  by_cases h0 : e' = 0
  · have h0' : (e' == 0) = true := by simp [h0]
    have hR := he.out.1 h0
    have hn := hR.small
    have c0 := k0.cell 0
    have f0 := k0.frozen 0
    simp at c0
    replace hR := hid hR
    replace k0 := hid k0
    go_wp2_with fail
    clear c0 f0
    have kk := Kept.setCell (g := w.heap.size) (Kept.refl _ w1) (p := ⟨w.heap.size, 0, none⟩) rfl (.int .i64 1)
    have k1 := k0.out.set 0 (.int .i64 1)
    simp only [List.setIfInBounds_toArray, List.set_cons_zero] at k1
    replace b1 := b1.trans (kk.below (Nat.le_refl _))
    clear kk k0
    generalize w1.setCell ⟨w.heap.size, 0, none⟩ (.int .i64 1) = w2 at *
    have hP2 := h.out.below b1
    refine (checkBlock_any p _ n n B w.heap.size 0 Q { K with refs := 1 } ka kn kc ba bn bc w2 hn hP2.cell hP2.own.store ⟨k1.cell 0, k1.cell 1, k1.cell 2, k1.cell 3, hk.out.below b1, hb.out.below b1, by simp, hl, hcc⟩).mono ?_
    rintro e w3 ⟨⟨e2, rfl, he2⟩, m, rfl⟩
    replace b1 := b1.trans (below_drewN w.heap.size w2 m)
    replace k1 := k1.below (below_drewN _ w2 m)
    clear hP2
    generalize w2.drewN m = w3 at *
    replace he2 := hid he2
    by_cases h2 : e2 = 0
    · have h2' : (e2 == 0) = true := by simp [h2]
      have hF := he2.out.1 h2
      have h4 : kn ≤ 4 ∧ bn ≤ 4 := by rw [← hk.out.1, ← hb.out.1]; exact ⟨hF.few, hF.few2⟩
      have hP3 := h.out.below b1
      have s3 := hP3.cell
      replace hF := hid hF
      replace k1 := hid k1
      go_wp2_with fail
      refine (indexFree_any _ n n B w3 hn hP3.own.store).mono ?_
      rintro e w4 ⟨hix, b4⟩
      replace k1 := hid (k1.out.below b4)
      replace b1 := Below.tr b1 b4
      clear b4 hP3 s3
      rcases hix with ⟨rfl, hno⟩ | ⟨i, hi, rfl, hi0, hmin⟩
      · replace hno := hid hno
        go_wp2_with fail
        go_ret2
        exact ⟨.inl ⟨8, rfl, by omega, ⟨fun f => by obtain ⟨_, _, k, hk', hk0⟩ := f; exact hno.out k hk' hk0, fun _ _ => rfl⟩⟩, Out.of_below b1⟩
      · replace hi0 := hid hi0
        replace hmin := hid hmin
        have hP4 := h.out.below b1
        have s4 := hP4.cell
        have q0 := k1.out.cell 0
        have q1 := k1.out.cell 1
        have q2 := k1.out.cell 2
        have q3 := k1.out.cell 3
        simp at q0 q1 q2 q3
        have hlt4 := k1.out.lt
        obtain ⟨xa, xn, xc, ya, yn, yc, hx⟩ := hP4.own.cell hi
        have hiI : (i : Int) < (n : Int) := by omega
        have hiI0 : (0 : Int) ≤ (i : Int) := by omega
        replace hP4 := hid hP4
        replace hx := hid hx
        go_upto_region 11 with fail
        go_cut [] from 29 (fun wc => OwnPtr wc p g n (upd B i { K with refs := 1 }) ∧ CellsAt wc w.heap.size #[.int .i64 1, .int .i64 K.level, .slice ka kn kc, .slice ba bn bc] 70 ∧ Out g w wc)
        case first =>
          go_region_with (go_at_call 73; refine (copyBlock_any { K with refs := 1 } ka kn kc ba bn bc Q _ ?_ ?_ h4).mono ?_; exact (hk.out.below b1).below (below_drew _ _); exact (hb.out.below b1).below (below_drew _ _); rintro e w5 ⟨⟨ka', kn', kc', ba', bn', bc', rfl, hK', hB', hc1', hc2'⟩, b5⟩; replace b5 : Below w4.heap.size w4 w5 := (below_drew _ _).trans b5; have s5 := (b5.cell (p := p) hP4.out.lt).trans s4; have hx5 := hx.out.below b5; have d0 := hx5.c0; have d1 := hx5.c1; have d2 := hx5.c2; have d3 := hx5.c3; have hO5 := hP4.out.own.below b5; have e0 := hO5.free (i * 4) (by omega); have e1 := hO5.free (i * 4 + 1) (by omega); have e2 := hO5.free (i * 4 + 2) (by omega); have e3 := hO5.free (i * 4 + 3) (by omega); have k5 := hid (k1.out.below b5); replace hK' := hid hK'; replace hB' := hid hB'; replace b5 := hid b5; clear hO5 hx5)
          all_goals (go_wp2_with fail; go_meet; exact ⟨put_own hP4.out b5.out hi { K with refs := 1 } hK'.out hB'.out (by simp) hl ⟨hc1', hc2'⟩, put_cells k5.out (by omega), put_out b1 b5.out hlt4⟩)
        case rest =>
          obtain ⟨hP, hk5, hout⟩ := hcut
          have q5 := hk5.cell 2
          simp at q5
          have hkl := hid hk.out.1
          replace hP := hid hP
          clear s4 q0 q1 q2 q3 hiI hiI0 hP4 hx k1 hk5
          go_wp2_with fail
          go_loopw [40] (fun v wr => ∃ j : Nat, j ≤ kn ∧ v = .int .i64 j ∧ OwnPtr wr p g n (bump (upd B i { K with refs := 1 }) K.kids j) ∧ Out g w wr) (fun v _ => kn - (Go.RowKit.intOf v).toNat)
          case atStart => exact ⟨0, Nat.zero_le _, rfl, by rw [bump_zero]; exact hP.out, hout⟩
          case round =>
            clear hP hout q5
            obtain ⟨j, hjn, rfl, hP, hout⟩ := hrel
            by_cases hlt : j < kn
            · obtain ⟨kb, ko, rfl, hkb, hqb, hc⟩ := hk.out.2.2 (by omega)
              have hck : wr.cell? ⟨kb, ko + j, none⟩ = some (.int .i64 (K.kids.getD j 0)) := (hout.cell (p := ⟨kb, ko + j, none⟩) hkb (hQ.out kb hqb)).trans (hc j hlt)
              have hjl : j < K.kids.length := by rw [hkl.out]; exact hlt
              have hkid := hF.out.kids _ (hk.out.getD hlt)
              have I1 := hid (bump_skip (upd B i { K with refs := 1 }) K.kids j hjl)
              have I2 := hid (fun m => bump_next (upd B i { K with refs := 1 }) K.kids j m hjl)
              have I3 := hid (bump_bd (n := n) (upd B i { K with refs := 1 }) K.kids j (by
                intro k hk'
                unfold upd
                split
                · simp
                · have := (hR.out.one k hk').bounds; omega))
              clear hc
              simp only at hkid
              generalize K.kids.getD j 0 = x at *
              by_cases hx0 : x = 0
              · have hx0' : (x == 0) = true := by simp [hx0]
                have hP' := hid (I1.out hx0 ▸ hP)
                replace hP := hid hP
                go_wp2_with fail
                go_roundw
                case rel => exact ⟨j + 1, by omega, by go_num, hP'.out, hout⟩
                case measure => simp [Go.RowKit.intOf]; omega
              · have hx0' : (x == 0) = false := by simp [hx0]
                obtain ⟨m, rfl, hm⟩ := kid_ix hkid hx0
                obtain ⟨xa, xn, xc, ya, yn, yc, hx⟩ := hP.own.cell hm
                have c0 := hx.c0
                have f0 := hP.own.free (m * 4) (by omega)
                have hbd := I3.out m hm
                have sp := hP.cell
                have hkl4 : K.kids.length ≤ 4 := by rw [hkl.out]; exact h4.1
                have hP' := hid (hP.kept (Kept.setCell (g := g) (Kept.refl _ wr) (p := ⟨g, m * 4, none⟩) rfl _) (hP.own.refs hm ((bump (upd B i { K with refs := 1 }) K.kids j m).refs + 1) (by omega)))
                rw [← I2.out m rfl] at hP'
                have ho' := hid (hout.trans (Out.of_kept (Kept.setCell (g := g) (Kept.refl _ wr) (p := ⟨g, m * 4, none⟩) rfl (.int .i64 ((bump (upd B i { K with refs := 1 }) K.kids j m).refs + 1)))))
                replace hP := hid hP
                clear hx I1 I2 I3 hkid
                generalize (bump (upd B i { K with refs := 1 }) K.kids j m).refs = rf at *
                go_wp2_with fail
                refine (at_own p g n n m _ hn sp hm).mono ?_
                rintro e w6 ⟨rfl, rfl⟩
                go_wp2_with fail
                go_roundw
                case rel => exact ⟨j + 1, by omega, by go_num, hP'.out, ho'.out⟩
                case measure => simp [Go.RowKit.intOf]; omega
            · obtain rfl : j = kn := by omega
              have hP' : Hid (OwnPtr wr p g n (made B K i)) := hid ⟨hP.lt, hP.ne, hP.cell, hP.own.congr (fun k _ => by rw [← hkl.out]; exact bump_made B K i n hi hi0.out hF.out k)⟩
              clear hP
              go_wp2_with fail
              go_ret2
              exact ⟨.inr ⟨i, hi, rfl, ⟨hR.out, hF.out, i, hi, hi0.out⟩, hi0.out, hmin.out, hP'.out⟩, hout⟩
    · have h2' : (e2 == 0) = false := by simp [h2]
      go_wp2_with fail
      go_ret2
      exact ⟨.inl ⟨e2, rfl, h2, ⟨fun f => h2 (he2.out.2 f.2.1), fun _ f => absurd (he2.out.2 f) h2⟩⟩, Out.of_below b1⟩
  · have h0' : (e' == 0) = false := by simp [h0]
    go_wp2_with fail
    go_ret2
    exact ⟨.inl ⟨e', rfl, h0, ⟨fun f => h0 (he.out.2 f.1), fun f => absurd (he.out.2 f) h0⟩⟩, Out.of_below b1⟩

end Go.Proofs.Ytaagnojdpedilac
