/-
  MakeB, MakeS, Sto2, Stored, Back1 in one text. Nothing here is trusted.
-/
import Derived.Test.YtihkljfcplfldaaGreatPart04
import Derived.Laws.BytesArg
set_option linter.unusedVariables false
namespace Go.Proofs.YtihkljfcplfldaaGreat
open Go.RowKit

theorem isFree_any (r lv : Int) (ka : Option Addr) (kn kc : Nat) (ba : Option Addr) (bn bc : Nat) (w : World) :
    Calls Tryz.prog 229 #[.agg #[.int .i64 r, .int .i64 lv, .slice ka kn kc, .slice ba bn bc]] w fun e w' => e = .returned (.bool (r == 0)) ∧ Below w.heap.size w w' := by
  go_enter Tryz.func229, Tryz.ntmps229
  go_wp2_with fail
  go_ret
  exact ⟨rfl, below_alloc _ _⟩

/-- it answers the first place that is free, or none -/
def RetIx (e : Ending) (n : Nat) (B : Nat → Blk) : Prop :=
  (e = .returned (.int .i64 (-1)) ∧ ∀ k, k < n → (B k).refs ≠ 0) ∨ (∃ i : Nat, i < n ∧ e = .returned (.int .i64 i) ∧ (B i).refs = 0 ∧ ∀ k, k < i → (B k).refs ≠ 0)

set_option maxHeartbeats 1000000 in
set_option maxRecDepth 100000 in
theorem indexFree_any (a : Option Addr) (n c : Nat) (B : Nat → Blk) (w : World) (hn : n ≤ 400) (h : StoreAt w a n B) :
    Calls Tryz.prog 228 #[.slice a n c, .func (.func 229) #[] #[]] w fun e w' => RetIx e n B ∧ Below w.heap.size w w' := by
  go_enter Tryz.func228, Tryz.ntmps228
  go_wp2_with fail
  go_loopw [8] (fun v wr => ∃ i : Nat, i ≤ n ∧ v = .int .i64 i ∧ (∀ k, k < i → (B k).refs ≠ 0) ∧ Below w.heap.size w wr) (fun v _ => n - (Go.RowKit.intOf v).toNat)
  case atStart => exact ⟨0, Nat.zero_le _, rfl, fun k hk => absurd hk (by omega), Below.refl _ _⟩
  case round =>
    obtain ⟨i, hin, rfl, hno, hbel⟩ := hrel
    replace hno := hid hno
    by_cases hlt : i < n
    · obtain ⟨b, off, rfl, hb, hB⟩ := (h.below hbel) (by omega)
      obtain ⟨ka, kn, kc, ba, bn, bc, hblk⟩ := hB i hlt
      have c0 := hblk.c0
      have c1 := hblk.c1
      have c2 := hblk.c2
      have c3 := hblk.c3
      clear hB hblk
      generalize hrf : (B i).refs = rf at *
      replace hrf := hid hrf
      generalize (B i).level = lv at *
      go_wp2_with fail
      refine (isFree_any rf lv ka kn kc ba bn bc wr).mono ?_
      rintro e w1 ⟨rfl, b1⟩
      replace hbel := Below.tr hbel b1
      by_cases h0 : rf = 0
      · have h0' : (rf == 0) = true := by simp [h0]
        go_wp2_with fail
        go_ret
        exact ⟨.inr ⟨i, hlt, rfl, by rw [hrf.out]; exact h0, hno.out⟩, hbel⟩
      · have h0' : (rf == 0) = false := by simp [h0]
        go_wp2_with fail
        go_roundw
        case rel =>
          refine ⟨i + 1, by omega, by go_num, fun k hk => ?_, hbel⟩
          rcases Nat.lt_or_ge k i with h' | h'
          · exact hno.out k h'
          · obtain rfl : k = i := by omega
            rw [hrf.out]; exact h0
        case measure => simp [Go.RowKit.intOf]; omega
    · obtain rfl : i = n := by omega
      go_wp2_with fail
      go_ret
      exact ⟨.inl ⟨rfl, hno.out⟩, hbel⟩

/-- what Make refuses not -/
def Makeable (n : Nat) (B : Nat → Blk) (K : Blk) : Prop := Right n B ∧ Form n B { K with refs := 1 } ∧ ∃ i, i < n ∧ (B i).refs = 0

/-- the store with K at place i, and its kids held once more -/
def made (B : Nat → Blk) (K : Blk) (i : Nat) : Nat → Blk := fun k => if k = i then { K with refs := 1 } else { B k with refs := (B k).refs + (K.kids.count ((k : Int) + 1) : Int) }

/-- when j of the kids are held once more -/
def bump (B : Nat → Blk) (ks : List Int) (j : Nat) : Nat → Blk := fun k => { B k with refs := (B k).refs + ((ks.take j).count ((k : Int) + 1) : Int) }
theorem bump_zero (B : Nat → Blk) (ks : List Int) : bump B ks 0 = B := by
  funext k; unfold bump; simp
theorem bump_skip (B : Nat → Blk) (ks : List Int) (j : Nat) (hj : j < ks.length) (h : ks.getD j 0 = 0) : bump B ks (j + 1) = bump B ks j := by
  funext k; unfold bump
  rw [take_snoc hj, List.count_append, h, List.count_cons_of_ne (by omega)]
  simp
theorem bump_next (B : Nat → Blk) (ks : List Int) (j m : Nat) (hj : j < ks.length) (h : ks.getD j 0 = (m : Int) + 1) : bump B ks (j + 1) = upd (bump B ks j) m { bump B ks j m with refs := (bump B ks j m).refs + 1 } := by
  funext k
  unfold upd
  by_cases e : k = m
  · subst e
    rw [if_pos rfl]
    unfold bump
    rw [take_snoc hj, List.count_append, h]
    simp; omega
  · rw [if_neg e]
    unfold bump
    rw [take_snoc hj, List.count_append, h, List.count_cons_of_ne (by omega)]
    simp
theorem bump_bd {n : Nat} (B : Nat → Blk) (ks : List Int) (j : Nat) (h : ∀ k, k < n → 0 ≤ (B k).refs ∧ (B k).refs ≤ 1000000) : ∀ k, k < n → 0 ≤ (bump B ks j k).refs ∧ (bump B ks j k).refs ≤ 1000000 + (ks.length : Int) := by
  intro k hk
  have h1 := h k hk
  have h2 : (ks.take j).count ((k : Int) + 1) ≤ (ks.take j).length := List.count_le_length
  simp at h2
  show 0 ≤ (B k).refs + ((ks.take j).count ((k : Int) + 1) : Int) ∧ (B k).refs + ((ks.take j).count ((k : Int) + 1) : Int) ≤ _
  omega
theorem bump_made (B : Nat → Blk) (K : Blk) (i n : Nat) (hi : i < n) (h0 : (B i).refs = 0) (hF : Form n B { K with refs := 1 }) (k : Nat) : bump (upd B i { K with refs := 1 }) K.kids K.kids.length k = made B K i k := by
  unfold bump made
  rw [List.take_length]
  by_cases e : k = i
  · subst e
    rw [upd_same, if_pos rfl]
    have : K.kids.count ((k : Int) + 1) = 0 := by
      apply List.count_eq_zero.2
      intro hm
      rcases hF.kids _ hm with h | ⟨⟨_, _, h⟩, _⟩
      · omega
      · rw [show ((k : Int) + 1 - 1).toNat = k by omega] at h; exact h h0
    rw [this]; simp
  · rw [upd_other _ _ _ _ e, if_neg e]

theorem put_own {w4 w5 : World} {p : Addr} {g n i : Nat} {B : Nat → Blk} (h : OwnPtr w4 p g n B) (b5 : Below w4.heap.size w4 w5) (hi : i < n) (K : Blk) {ka : Option Addr} {kn kc : Nat} {ba : Option Addr} {bn bc : Nat}
    (hK : NumsAt (fun b => w4.heap.size ≤ b) .i64 w5 ka kn K.kids) (hB : NumsAt (fun b => w4.heap.size ≤ b) .u8 w5 ba bn K.bytes) (hr : -9223372036854775808 ≤ K.refs ∧ K.refs ≤ 9223372036854775807) (hl : -9223372036854775808 ≤ K.level ∧ K.level ≤ 9223372036854775807) (hc : kn ≤ kc ∧ bn ≤ bc) :
    OwnPtr (put4 w5 g (i * 4) (.int .i64 K.refs) (.int .i64 K.level) (.slice ka kn kc) (.slice ba bn bc)) p g n (upd B i K) := by
  have hlt := h.own.lt
  have h5 := h.below b5
  exact h5.kept (kept_put4 _ _ _ _ _ _ _) (h5.own.put hi K ka kn kc ba bn bc (hK.weaken fun b _ h => by omega) (hB.weaken fun b _ h => by omega) hr hl hc)
theorem put_cells {w5 : World} {g o q : Nat} {cs : Array Value} {t : TypeId} {v0 v1 v2 v3 : Value} (k : CellsAt w5 q cs t) (hq : q ≠ g) : CellsAt (put4 w5 g o v0 v1 v2 v3) q cs t := by
  unfold CellsAt
  rw [(kept_put4 w5 g o v0 v1 v2 v3).block q hq]
  exact k
theorem put_out {w w4 w5 : World} {g o : Nat} {v0 v1 v2 v3 : Value} (b1 : Below w.heap.size w w4) (b5 : Below w4.heap.size w4 w5) (_ : w.heap.size < w4.heap.size) : Out g w (put4 w5 g o v0 v1 v2 v3) :=
  (Out.of_below (Below.tr b1 b5)).trans (Out.of_kept (kept_put4 w5 g o v0 v1 v2 v3))

/-- why Make makes none: where all is right none is free -/
def NotMade (n : Nat) (B : Nat → Blk) (K : Blk) (e' : Int) : Prop := ¬ Makeable n B K ∧ (Right n B → Form n B { K with refs := 1 } → e' = 8)

/-- what Make in one's own store answers -/
def Made (e : Ending) (p : Addr) (g n : Nat) (B : Nat → Blk) (K : Blk) (w : World) : Prop :=
  (∃ e' : Int, e = .returned (.tuple #[.int .i64 0, .int .i64 e']) ∧ e' ≠ 0 ∧ NotMade n B K e') ∨
  (∃ i : Nat, i < n ∧ e = .returned (.tuple #[.int .i64 ((i : Int) + 1), .int .i64 0]) ∧ Makeable n B K ∧ (B i).refs = 0 ∧ (∀ k, k < i → (B k).refs ≠ 0) ∧ OwnPtr w p g n (made B K i))

set_option maxHeartbeats 2000000 in
set_option maxRecDepth 100000 in
theorem make_any (p : Addr) (g n : Nat) (B : Nat → Blk) (K : Blk) (ka : Option Addr) (kn kc : Nat) (ba : Option Addr) (bn bc : Nat) (Q : Nat → Prop) (w : World) (h : OwnPtr w p g n B)
    (hQ : ∀ b, Q b → b ≠ g) (hk : NumsAt Q .i64 w ka kn K.kids) (hb : NumsAt Q .u8 w ba bn K.bytes) (hl : -9223372036854775808 ≤ K.level ∧ K.level ≤ 9223372036854775807) (hcc : kn ≤ kc ∧ bn ≤ bc) :
    Calls Tryz.prog 227 #[.pointer (some p), .agg #[.int .i64 K.refs, .int .i64 K.level, .slice ka kn kc, .slice ba bn bc]] w fun e w' => Made e p g n B K w' ∧ Out g w w' := by
  have hg0 : g < w.heap.size := h.own.lt
  have b0 := below_alloc w (.cells #[.int .i64 K.refs, .int .i64 K.level, .slice ka kn kc, .slice ba bn bc] 124)
  have k0 := cellsAt_alloc w #[.int .i64 K.refs, .int .i64 K.level, .slice ka kn kc, .slice ba bn bc] 124
  replace k0 := hid k0
  replace hk := hid hk
  replace hb := hid hb
  replace h := hid h
  replace hQ := hid hQ
  go_enter Tryz.func227, Tryz.ntmps227
  go_wp2_with fail
  generalize w.alloc (.cells #[.int .i64 K.refs, .int .i64 K.level, .slice ka kn kc, .slice ba bn bc] 124) = w0 at *
  refine (check_any p _ n n B w0 (h.out.below b0).ptr).mono ?_
  rintro e w1 ⟨⟨e', rfl, he⟩, b1⟩
  replace k0 := k0.out.below b1
  replace b1 := Below.tr b0 b1
  clear b0
  replace he := hid he
  by_cases h0 : e' = 0
  · have h0' : (e' == 0) = true := by simp [h0]
    have hR := he.out.1 h0
    have hn := hR.small
    have c0 := k0.cell 0
    have f0 := k0.frozen 0
    simp at c0
    replace hR := hid hR
    replace k0 := hid k0
    go_wp2_with fail
    clear c0 f0
    have kk := Kept.setCell (g := w.heap.size) (Kept.refl _ w1) (p := ⟨w.heap.size, 0, none⟩) rfl (.int .i64 1)
    have k1 := k0.out.set 0 (.int .i64 1)
    simp only [List.setIfInBounds_toArray, List.set_cons_zero] at k1
    replace b1 := b1.trans (kk.below (Nat.le_refl _))
    clear kk k0
    generalize w1.setCell ⟨w.heap.size, 0, none⟩ (.int .i64 1) = w2 at *
    have hP2 := h.out.below b1
    refine (checkBlock_any p _ n n B w.heap.size 0 Q { K with refs := 1 } ka kn kc ba bn bc w2 hn hP2.cell hP2.own.store ⟨k1.cell 0, k1.cell 1, k1.cell 2, k1.cell 3, hk.out.below b1, hb.out.below b1, by simp, hl, hcc⟩).mono ?_
    rintro e w3 ⟨⟨e2, rfl, he2⟩, m, rfl⟩
    replace b1 := b1.trans (below_drewN w.heap.size w2 m)
    replace k1 := k1.below (below_drewN _ w2 m)
    clear hP2
    generalize w2.drewN m = w3 at *
    replace he2 := hid he2
    by_cases h2 : e2 = 0
    · have h2' : (e2 == 0) = true := by simp [h2]
      have hF := he2.out.1 h2
      have h4 : kn ≤ 4 ∧ bn ≤ 4 := by rw [← hk.out.1, ← hb.out.1]; exact ⟨hF.few, hF.few2⟩
      have hP3 := h.out.below b1
      have s3 := hP3.cell
      replace hF := hid hF
      replace k1 := hid k1
      go_wp2_with fail
      refine (indexFree_any _ n n B w3 hn hP3.own.store).mono ?_
      rintro e w4 ⟨hix, b4⟩
      replace k1 := hid (k1.out.below b4)
      replace b1 := Below.tr b1 b4
      clear b4 hP3 s3
      rcases hix with ⟨rfl, hno⟩ | ⟨i, hi, rfl, hi0, hmin⟩
      · replace hno := hid hno
        go_wp2_with fail
        go_ret2
        exact ⟨.inl ⟨8, rfl, by omega, ⟨fun f => by obtain ⟨_, _, k, hk', hk0⟩ := f; exact hno.out k hk' hk0, fun _ _ => rfl⟩⟩, Out.of_below b1⟩
      · replace hi0 := hid hi0
        replace hmin := hid hmin
        have hP4 := h.out.below b1
        have s4 := hP4.cell
        have q0 := k1.out.cell 0
        have q1 := k1.out.cell 1
        have q2 := k1.out.cell 2
        have q3 := k1.out.cell 3
        simp at q0 q1 q2 q3
        have hlt4 := k1.out.lt
        obtain ⟨xa, xn, xc, ya, yn, yc, hx⟩ := hP4.own.cell hi
        have hiI : (i : Int) < (n : Int) := by omega
        have hiI0 : (0 : Int) ≤ (i : Int) := by omega
        replace hP4 := hid hP4
        replace hx := hid hx
        go_upto_region 11 with fail
        go_cut [] from 29 (fun wc => OwnPtr wc p g n (upd B i { K with refs := 1 }) ∧ CellsAt wc w.heap.size #[.int .i64 1, .int .i64 K.level, .slice ka kn kc, .slice ba bn bc] 124 ∧ Out g w wc)
        case first =>
          go_region_with (go_at_call 68; refine (copyBlock_any { K with refs := 1 } ka kn kc ba bn bc Q _ ?_ ?_ h4).mono ?_; exact (hk.out.below b1).below (below_drew _ _); exact (hb.out.below b1).below (below_drew _ _); rintro e w5 ⟨⟨ka', kn', kc', ba', bn', bc', rfl, hK', hB', hc1', hc2'⟩, b5⟩; replace b5 : Below w4.heap.size w4 w5 := (below_drew _ _).trans b5; have s5 := (b5.cell (p := p) hP4.out.lt).trans s4; have hx5 := hx.out.below b5; have d0 := hx5.c0; have d1 := hx5.c1; have d2 := hx5.c2; have d3 := hx5.c3; have hO5 := hP4.out.own.below b5; have e0 := hO5.free (i * 4) (by omega); have e1 := hO5.free (i * 4 + 1) (by omega); have e2 := hO5.free (i * 4 + 2) (by omega); have e3 := hO5.free (i * 4 + 3) (by omega); have k5 := hid (k1.out.below b5); replace hK' := hid hK'; replace hB' := hid hB'; replace b5 := hid b5; clear hO5 hx5)
          all_goals (go_wp2_with fail; go_meet; exact ⟨put_own hP4.out b5.out hi { K with refs := 1 } hK'.out hB'.out (by simp) hl ⟨hc1', hc2'⟩, put_cells k5.out (by omega), put_out b1 b5.out hlt4⟩)
        case rest =>
          obtain ⟨hP, hk5, hout⟩ := hcut
          have q5 := hk5.cell 2
          simp at q5
          have hkl := hid hk.out.1
          replace hP := hid hP
          clear s4 q0 q1 q2 q3 hiI hiI0 hP4 hx k1 hk5
          go_wp2_with fail
          go_loopw [40] (fun v wr => ∃ j : Nat, j ≤ kn ∧ v = .int .i64 j ∧ OwnPtr wr p g n (bump (upd B i { K with refs := 1 }) K.kids j) ∧ Out g w wr) (fun v _ => kn - (Go.RowKit.intOf v).toNat)
          case atStart => exact ⟨0, Nat.zero_le _, rfl, by rw [bump_zero]; exact hP.out, hout⟩
          case round =>
            clear hP hout q5
            obtain ⟨j, hjn, rfl, hP, hout⟩ := hrel
            by_cases hlt : j < kn
            · obtain ⟨kb, ko, rfl, hkb, hqb, hc⟩ := hk.out.2.2 (by omega)
              have hck : wr.cell? ⟨kb, ko + j, none⟩ = some (.int .i64 (K.kids.getD j 0)) := (hout.cell (p := ⟨kb, ko + j, none⟩) hkb (hQ.out kb hqb)).trans (hc j hlt)
              have hjl : j < K.kids.length := by rw [hkl.out]; exact hlt
              have hkid := hF.out.kids _ (hk.out.getD hlt)
              have I1 := hid (bump_skip (upd B i { K with refs := 1 }) K.kids j hjl)
              have I2 := hid (fun m => bump_next (upd B i { K with refs := 1 }) K.kids j m hjl)
              have I3 := hid (bump_bd (n := n) (upd B i { K with refs := 1 }) K.kids j (by
                intro k hk'
                unfold upd
                split
                · simp
                · have := (hR.out.one k hk').bounds; omega))
              clear hc
              simp only at hkid
              generalize K.kids.getD j 0 = x at *
              by_cases hx0 : x = 0
              · have hx0' : (x == 0) = true := by simp [hx0]
                have hP' := hid (I1.out hx0 ▸ hP)
                replace hP := hid hP
                go_wp2_with fail
                go_roundw
                case rel => exact ⟨j + 1, by omega, by go_num, hP'.out, hout⟩
                case measure => simp [Go.RowKit.intOf]; omega
              · have hx0' : (x == 0) = false := by simp [hx0]
                obtain ⟨m, rfl, hm⟩ := kid_ix hkid hx0
                obtain ⟨xa, xn, xc, ya, yn, yc, hx⟩ := hP.own.cell hm
                have c0 := hx.c0
                have f0 := hP.own.free (m * 4) (by omega)
                have hbd := I3.out m hm
                have sp := hP.cell
                have hkl4 : K.kids.length ≤ 4 := by rw [hkl.out]; exact h4.1
                have hP' := hid (hP.kept (Kept.setCell (g := g) (Kept.refl _ wr) (p := ⟨g, m * 4, none⟩) rfl _) (hP.own.refs hm ((bump (upd B i { K with refs := 1 }) K.kids j m).refs + 1) (by omega)))
                rw [← I2.out m rfl] at hP'
                have ho' := hid (hout.trans (Out.of_kept (Kept.setCell (g := g) (Kept.refl _ wr) (p := ⟨g, m * 4, none⟩) rfl (.int .i64 ((bump (upd B i { K with refs := 1 }) K.kids j m).refs + 1)))))
                replace hP := hid hP
                clear hx I1 I2 I3 hkid
                generalize (bump (upd B i { K with refs := 1 }) K.kids j m).refs = rf at *
                go_wp2_with fail
                refine (at_own p g n n m _ hn sp hm).mono ?_
                rintro e w6 ⟨rfl, rfl⟩
                go_wp2_with fail
                go_roundw
                case rel => exact ⟨j + 1, by omega, by go_num, hP'.out, ho'.out⟩
                case measure => simp [Go.RowKit.intOf]; omega
            · obtain rfl : j = kn := by omega
              have hP' : Hid (OwnPtr wr p g n (made B K i)) := hid ⟨hP.lt, hP.ne, hP.cell, hP.own.congr (fun k _ => by rw [← hkl.out]; exact bump_made B K i n hi hi0.out hF.out k)⟩
              clear hP
              go_wp2_with fail
              go_ret2
              exact ⟨.inr ⟨i, hi, rfl, ⟨hR.out, hF.out, i, hi, hi0.out⟩, hi0.out, hmin.out, hP'.out⟩, hout⟩
    · have h2' : (e2 == 0) = false := by simp [h2]
      go_wp2_with fail
      go_ret2
      exact ⟨.inl ⟨e2, rfl, h2, ⟨fun f => h2 (he2.out.2 f.2.1), fun _ f => absurd (he2.out.2 f) h2⟩⟩, Out.of_below b1⟩
  · have h0' : (e' == 0) = false := by simp [h0]
    go_wp2_with fail
    go_ret2
    exact ⟨.inl ⟨e', rfl, h0, ⟨fun f => h0 (he.out.2 f.1), fun f => absurd (he.out.2 f) h0⟩⟩, Out.of_below b1⟩

end Go.Proofs.YtihkljfcplfldaaGreat

namespace Go.Proofs.YtihkljfcplfldaaGreat
open Go.RowKit

/-- what the closure of store.Make finds: the block, the place for the address -/
structure MakeEnv (w : World) (lim bb ab : Nat) (K : Blk) (ka : Option Addr) (kn kc : Nat) (ba : Option Addr) (bn bc : Nat) : Prop where
  cb : CellsAt w bb #[.int .i64 K.refs, .int .i64 K.level, .slice ka kn kc, .slice ba bn bc] 124
  ca : CellsAt w ab #[.int .i64 0] 3
  kids : NumsAt (fun b => b < lim) .i64 w ka kn K.kids
  bytes : NumsAt (fun b => b < lim) .u8 w ba bn K.bytes
  level : -9223372036854775808 ≤ K.level ∧ K.level ≤ 9223372036854775807
  caps : kn ≤ kc ∧ bn ≤ bc
  ne : bb ≠ ab
  la : ab < lim
  lb : bb < lim
theorem MakeEnv.below {w w' : World} {lim bb ab : Nat} {K : Blk} {ka : Option Addr} {kn kc : Nat} {ba : Option Addr} {bn bc : Nat} (h : MakeEnv w lim bb ab K ka kn kc ba bn bc) (b : Below w.heap.size w w') : MakeEnv w' lim bb ab K ka kn kc ba bn bc :=
  ⟨h.cb.below b, h.ca.below b, h.kids.below b, h.bytes.below b, h.level, h.caps, h.ne, h.la, h.lb⟩

/-- what was there but two blocks is as it was -/
structure Out2 (g h : Nat) (w w' : World) : Prop where
  os : w'.os = w.os
  tape : w'.tape = w.tape
  output : w'.output = w.output
  size : w.heap.size ≤ w'.heap.size
  block : ∀ k, k < w.heap.size → k ≠ g → k ≠ h → w'.heap[k]? = w.heap[k]?
theorem Out2.of {g h : Nat} {a b c : World} (x : Out g a b) (y : Kept h b c) : Out2 g h a c :=
  ⟨y.os.trans x.os, y.tape.trans x.tape, y.output.trans x.output, by rw [y.size]; exact x.size, fun k hk hg hh => (y.block k hh).trans (x.block k hk hg)⟩
theorem Out.setNew {g : Nat} {w w' : World} (h : Out g w w') {a : Addr} (ha : w.heap.size ≤ a.block) {v : Value} : Out g w (w'.setCell a v) :=
  ⟨h.os, h.tape, h.output, by simpa using h.size, fun k hk hg => by rw [Below.heap_setCell _ _ _ _ (by omega)]; exact h.block k hk hg⟩

/-- what the closure of store.Make answers, and leaves -/
def DidMake (e : Ending) (p : Addr) (g n : Nat) (B : Nat → Blk) (K : Blk) (ab : Nat) (w : World) : Prop :=
  (∃ e' : Int, e = .returned (.int .i64 e') ∧ e' ≠ 0 ∧ ¬ Makeable n B K ∧ CellsAt w ab #[.int .i64 0] 3) ∨
  (∃ i : Nat, i < n ∧ e = .returned (.int .i64 0) ∧ Makeable n B K ∧ (B i).refs = 0 ∧ (∀ k, k < i → (B k).refs ≠ 0) ∧ OwnPtr w p g n (made B K i) ∧ CellsAt w ab #[.int .i64 ((i : Int) + 1)] 3)

/-- what store.change answers to the closure of store.Make -/
def RetMake (base : Nat) (e : Ending) (w : World) (n : Nat) (B : Nat → Blk) (K : Blk) (ab : Nat) : Prop :=
  (∃ e', e = .returned (.tuple #[.agg #[.slice none 0 0], .int .i64 e']) ∧ e' ≠ 0 ∧ ¬ Makeable n B K ∧ CellsAt w ab #[.int .i64 0] 3) ∨
  (∃ i : Nat, i < n ∧ Makeable n B K ∧ (B i).refs = 0 ∧ (∀ k, k < i → (B k).refs ≠ 0) ∧ RetS base e w n (made B K i) ∧ CellsAt w ab #[.int .i64 ((i : Int) + 1)] 3)

theorem results_cell_tmps {fn : Func} {p u v : Tmp} {ty : TypeId} (h : fn.results = #[.cell p ty, .tmp u, .tmp v]) (tmps : Array Value) (P : Program) (w : World) :
    (results fn tmps).run P w =
      ((asAddr (tmps.getD p undef)).run P w).andThen fun a w₁ => ((loadVar ty a).run P w₁).andThen fun x w₂ => .ok (.tuple #[x, tmps.getD u undef, tmps.getD v undef]) w₂ := by
  simp only [results, h]
  simp [Sem.run_bind, Result.andThen]

/-- what store.Make answers -/
def RetMade (base : Nat) (e : Ending) (w : World) (n : Nat) (B : Nat → Blk) (K : Blk) : Prop :=
  (∃ e', e = .returned (.tuple #[.agg #[.slice none 0 0], .int .i64 0, .int .i64 e']) ∧ e' ≠ 0 ∧ ¬ Makeable n B K) ∨
  (∃ i : Nat, i < n ∧ Makeable n B K ∧ (B i).refs = 0 ∧ (∀ k, k < i → (B k).refs ≠ 0) ∧ ∃ g c, e = .returned (.tuple #[.agg #[.slice (some ⟨g, 0, none⟩) n c], .int .i64 ((i : Int) + 1), .int .i64 0]) ∧ base ≤ g ∧ g < w.heap.size ∧ Blocks (fun b => base ≤ b) w g 0 n (made B K i))

theorem cellsAt_alloc4 (w : World) (o q r : Obj) (cs : Array Value) (t : TypeId) : CellsAt ((((w.alloc o).alloc q).alloc r).alloc (.cells cs t)) (w.heap.size + 3) cs t := by
  have := cellsAt_alloc3 (w.alloc o) q r cs t
  simpa [Nat.add_assoc, Nat.add_comm, Nat.add_left_comm] using this

end Go.Proofs.YtihkljfcplfldaaGreat

namespace Go.Proofs.YtihkljfcplfldaaGreat

theorem kid_free {n : Nat} {B : Nat → Blk} {K : Blk} {i : Nat} (hF : Form n B { K with refs := 1 }) (h0 : (B i).refs = 0) : K.kids.count ((i : Int) + 1) = 0 := by
  apply List.count_eq_zero.2
  intro hm
  rcases hF.kids _ hm with h | ⟨⟨_, _, h⟩, _⟩
  · omega
  · rw [show ((i : Int) + 1 - 1).toNat = i by omega] at h; exact h h0

theorem made_same (B : Nat → Blk) (K : Blk) (i : Nat) : made B K i i = { K with refs := 1 } := by simp [made]
theorem made_other (B : Nat → Blk) (K : Blk) {i k : Nat} (h : k ≠ i) : made B K i k = { B k with refs := (B k).refs + (K.kids.count ((k : Int) + 1) : Int) } := by simp [made, h]

theorem among_made {n : Nat} {B : Nat → Blk} {K : Blk} {i : Nat} (hi : i < n) (hz : Form n B (B i)) (h0 : (B i).refs = 0) (x : Int) : among n (made B K i) x = among n B x + K.kids.count x := by
  have h1 : among n (made B K i) x = among n (upd B i { K with refs := 1 }) x := among_congr x fun k hk => by
    by_cases e : k = i
    · subst e; rw [made_same, upd_same]
    · rw [made_other _ _ e, upd_other _ _ _ _ e]
  have h2 := among_upd (n := n) (B := B) (i := i) { K with refs := 1 } x hi
  rw [hz.zero h0] at h2
  have h3 : Blk.zero.kids.count x = 0 := by simp [Blk.zero]
  rw [h3] at h2
  rw [h1]
  simpa using h2

theorem outs_made {n : Nat} {B : Nat → Blk} {K : Blk} {i : Nat} (hR : Right n B) (hF : Form n B { K with refs := 1 }) (hi : i < n) (h0 : (B i).refs = 0) (k : Nat) (hk : k < n) : outs n (made B K i) k = if k = i then 1 else outs n B k := by
  have hm := among_made (K := K) hi (hR.one i hi) h0 ((k : Int) + 1)
  unfold outs
  by_cases e : k = i
  · subst e
    have h1 := hR.held k hk
    have h2 := kid_free hF h0
    simp at h1
    rw [made_same, if_pos rfl, hm, h2]
    show (1 : Int) - _ = 1
    omega
  · rw [made_other _ _ e, if_neg e, hm]
    show (B k).refs + _ - _ = _
    omega

theorem right_made {n : Nat} {B : Nat → Blk} {K : Blk} {i : Nat} (hR : Right n B) (hF : Form n B { K with refs := 1 }) (hi : i < n) (h0 : (B i).refs = 0) (hm : ∀ k, k < n → (made B K i k).refs ≤ 1000000) : Right n (made B K i) := by
  have hth : ∀ x, There n B x → There n (made B K i) x ∧ (made B K i (x - 1).toNat).level = (B (x - 1).toNat).level := by
    intro x ⟨x1, x2, x3⟩
    have hne : (x - 1).toNat ≠ i := fun e => x3 (by rw [e]; exact h0)
    have hb := (hR.one _ (ix x1 x2).1).bounds
    refine ⟨⟨x1, x2, ?_⟩, by rw [made_other _ _ hne]⟩
    rw [made_other _ _ hne]
    show (B (x - 1).toNat).refs + _ ≠ 0
    omega
  refine ⟨hR.small, fun k hk => ?_, fun k hk => ?_, by simp⟩
  · by_cases e : k = i
    · subst e
      rw [made_same]
      exact hF.turn rfl rfl rfl (.inl rfl) fun x _ => hth x
    · have hb := (hR.one k hk).bounds
      have hmk := hm k hk
      refine (hR.one k hk).turn (by rw [made_other _ _ e]) (by rw [made_other _ _ e]) (by rw [made_other _ _ e]) ?_ fun x _ => hth x
      rw [made_other _ _ e] at hmk ⊢
      by_cases e0 : (B k).refs = 0
      · have := kid_free hF e0
        left
        show (B k).refs + _ = _
        omega
      · right
        refine ⟨e0, ?_, hmk⟩
        show 1 ≤ (B k).refs + _
        omega
  · have h1 := outs_made hR hF hi h0 k hk
    have h2 := hR.held k hk
    simp at h2 ⊢
    unfold outs at h1
    split at h1 <;> omega

theorem right_zero (n : Nat) (hn : n ≤ 400) : Right n (fun _ => Blk.zero) := by
  refine ⟨hn, fun i _ => form_zero _ _, fun i hi => ?_, by simp⟩
  have : among n (fun _ => Blk.zero) ((i : Int) + 1) = 0 := by
    have := among_le (n := n) (B := fun _ => Blk.zero) ((i : Int) + 1)
    unfold among
    rw [sumTo_congr (g := fun _ => 0) (fun k _ => by simp [Blk.zero])]
    clear this hi hn
    induction n with
    | zero => rfl
    | succ n ih => simp [sumTo, ih]
  rw [this]
  simp [Blk.zero]
theorem outs_zero (n k : Nat) : outs n (fun _ => Blk.zero) k = 0 := by
  unfold outs among
  rw [sumTo_congr (g := fun _ => 0) (fun k _ => by simp [Blk.zero])]
  have : sumTo (fun _ => 0) n = 0 := by
    induction n with
    | zero => rfl
    | succ n ih => simp [sumTo, ih]
  rw [this]
  simp [Blk.zero]

/-- of two blocks, the first place that is free is one -/
theorem first_free {B : Nat → Blk} {i j : Nat} (h0 : (B j).refs = 0) (hmin : ∀ k, k < i → (B k).refs ≠ 0) : i ≤ j := by
  rcases Nat.lt_or_ge j i with h | h
  · exact absurd h0 (hmin j h)
  · exact h

def leafK : Blk := ⟨0, 0, [], [1, 2, 3, 4]⟩
def nodeK : Blk := ⟨0, 1, [0, 1, 0, 1], []⟩
def B1 : Nat → Blk := made (fun _ => Blk.zero) leafK 0
def B2 : Nat → Blk := made B1 nodeK 1

theorem make1 : Makeable 3 (fun _ => Blk.zero) leafK := by
  refine ⟨right_zero 3 (by omega), .inr ⟨by simp [leafK], .inl ⟨rfl, rfl, rfl⟩⟩, 0, by omega, rfl⟩
theorem right1 : Right 3 B1 := right_made make1.1 make1.2.1 (by omega) rfl (by
  intro k hk
  match k, hk with
  | 0, _ => decide
  | 1, _ => decide
  | 2, _ => decide)
theorem make2 : Makeable 3 B1 nodeK := by
  refine ⟨right1, .inr ⟨by simp [nodeK], .inr ⟨by simp [nodeK], rfl, rfl, ?_, 1, by simp [nodeK], by omega⟩⟩, 1, by omega, rfl⟩
  intro k hk
  simp [nodeK] at hk
  rcases hk with rfl | rfl | rfl | rfl
  · exact .inl rfl
  · exact .inr ⟨⟨by omega, by omega, by decide⟩, rfl⟩
  · exact .inl rfl
  · exact .inr ⟨⟨by omega, by omega, by decide⟩, rfl⟩
theorem right2 : Right 3 B2 := right_made make2.1 make2.2.1 (by omega) rfl (by
  intro k hk
  match k, hk with
  | 0, _ => decide
  | 1, _ => decide
  | 2, _ => decide)
theorem outs2 (k : Nat) (hk : k < 3) : outs 3 B2 k = if k = 2 then 0 else 1 := by
  unfold B2
  rw [outs_made make2.1 make2.2.1 (by omega) rfl k hk]
  by_cases e : k = 1
  · subst e; rfl
  · rw [if_neg e]
    unfold B1
    rw [outs_made make1.1 make1.2.1 (by omega) rfl k hk]
    by_cases e2 : k = 0
    · subst e2; rfl
    · rw [if_neg e2, outs_zero, if_pos (by omega)]

theorem Fell.outs {n : Nat} {B C : Nat → Blk} {T : List Int} (h : Fell n B C T) (k : Nat) (hk : k < n) : outs n C k = outs n B k - (T.count ((k : Int) + 1) : Int) := h.out k hk

theorem droppable_of {n : Nat} {B : Nat → Blk} (hR : Right n B) {i : Nat} (hi : i < n) (ho : 0 < outs n B i) : Droppable n B ((i : Int) + 1) := by
  have e : ((i : Int) + 1 - 1).toNat = i := by omega
  unfold Droppable There
  rw [e]
  unfold outs at ho
  exact ⟨hR, ⟨by omega, by omega, by omega⟩, by omega⟩

theorem used_none {B : Nat → Blk} : ∀ {n : Nat}, (∀ i, i < n → (B i).refs = 0) → usedTo B n = 0
  | 0, _ => rfl
  | n + 1, h => by
    rw [usedTo_succ, used_none (fun i hi => h i (by omega)), h n (by omega)]
    simp
end Go.Proofs.YtihkljfcplfldaaGreat

namespace Go.Proofs.YtihkljfcplfldaaGreat
open Go.RowKit

set_option maxHeartbeats 1000000 in
set_option maxRecDepth 100000 in
theorem equalInts_same (a1 a2 : Option Addr) (n c d : Nat) (Q1 Q2 : Nat → Prop) (xs : List Int) (w : World) (hn : n ≤ 1000) (h1 : NumsAt Q1 .i64 w a1 n xs) (h2 : NumsAt Q2 .i64 w a2 n xs) :
    Calls Tryz.prog 87 #[.slice a1 n c, .slice a2 n d] w fun e w' => e = .returned (.bool true) ∧ ∃ q, w' = w.drewN q := by
  replace h1 := hid h1
  replace h2 := hid h2
  go_enter Tryz.func87, Tryz.ntmps87
  go_wp2
  go_loopw [13] (fun i wr => ∃ k q : Nat, k ≤ n ∧ i = .int .i64 k ∧ wr = w.drewN q) (fun i _ => n - (Go.RowKit.intOf i).toNat)
  case atStart => exact ⟨0, 0, Nat.zero_le _, rfl, rfl⟩
  case round =>
    obtain ⟨k, q, hk, rfl, rfl⟩ := hrel
    by_cases hlt : k < n
    · obtain ⟨b1, o1, rfl, _, _, hc1⟩ := h1.out.2.2 (by omega)
      obtain ⟨b2, o2, rfl, _, _, hc2⟩ := h2.out.2.2 (by omega)
      have g1 := hc1 k (by omega)
      have g2 := hc2 k (by omega)
      clear hc1 hc2 h1 h2
      generalize xs.getD k 0 = x at *
      go_wp2_with fail
      go_quiet (fail)
      go_wp2
      go_roundw
      case rel => exact ⟨k + 1, q + nq, by omega, by go_num, rfl⟩
      case measure => simp [Go.RowKit.intOf]; omega
    · have : k = n := by omega
      subst this
      clear h1 h2
      go_wp2
      go_ret
      exact ⟨rfl, q, rfl⟩

theorem at_any (k n : Int) (w : World) (h0 : 1 ≤ n) (h1 : n ≤ 1000) :
    Calls Tryz.prog 13 #[.int .i64 k, .int .i64 n] w fun e w' => (∃ r : Nat, e = .returned (.int .i64 r) ∧ (r : Int) < n) ∧ w' = w := by
  have t1 := Int.tmod_lt_of_pos k (show 0 < n by omega)
  have t2 : -n < k.tmod n := by have := Int.tmod_lt_of_pos (-k) (show 0 < n by omega); rw [Int.neg_tmod] at this; omega
  have hnz : (n == 0) = false := by simp; omega
  generalize ht : k.tmod n = t at t1 t2
  by_cases hneg : t < 0
  · go_enter Tryz.func13, Tryz.ntmps13
    go_wp2
    go_ret
    exact ⟨⟨(t + n).toNat, congrArg (fun z => Ending.returned (.int .i64 z)) (show t + n = ((t + n).toNat : Int) by omega), by omega⟩, rfl⟩
  · go_enter Tryz.func13, Tryz.ntmps13
    go_wp2
    go_ret
    exact ⟨⟨t.toNat, congrArg (fun z => Ending.returned (.int .i64 z)) (show t = (t.toNat : Int) by omega), by omega⟩, rfl⟩

theorem Row.nums {w : World} {base g n : Nat} {f : Nat → Int} (r : Row w base g n f) (hf : ∀ k, k < n → -9223372036854775808 ≤ f k ∧ f k ≤ 9223372036854775807) : NumsAt (fun b => base ≤ b) .i64 w (some ⟨g, 0, none⟩) n ((List.range n).map f) := by
  refine ⟨by simp, ?_, fun hn => ⟨g, 0, rfl, r.lt.2, r.lt.1, fun i hi => ?_⟩⟩
  · intro x hx
    simp only [List.mem_map, List.mem_range] at hx
    obtain ⟨k, hk, rfl⟩ := hx
    exact WalkArith.wf_i64 (hf k hk)
  · rw [Nat.zero_add, r.cell hi]
    simp [List.getD, hi]

theorem lit_nums (w : World) (xs : List Int) (t : TypeId) (k : IntKind) (hw : ∀ x ∈ xs, (Lit.int k x).wf = true) : NumsAt (fun b => w.heap.size ≤ b) k (w.alloc (.cells (xs.map (Value.int k)).toArray t)) (some ⟨w.heap.size, 0, none⟩) xs.length xs := by
  refine ⟨rfl, hw, fun hn => ⟨_, _, rfl, by simp, Nat.le_refl _, fun i hi => ?_⟩⟩
  rw [World.cell?_alloc_at _ _ _ _ rfl, Nat.zero_add]
  simp [List.getD, hi]

/-- a variable that holds a store is given another one -/
theorem cur_set {w : World} {q base g n : Nat} {u v : Value} {t : TypeId} {B : Nat → Blk} (k : CellsAt w q #[u] t) (hq : q < base) (hg : base ≤ g) (hgl : g < w.heap.size) (hB : Blocks (fun b => base ≤ b) w g 0 n B) :
    CellsAt (w.setCell ⟨q, 0, none⟩ v) q #[v] t ∧ StoreAt (w.setCell ⟨q, 0, none⟩ v) (some ⟨g, 0, none⟩) n B := by
  have kk := Kept.setCell (g := q) (Kept.refl _ w) (p := ⟨q, 0, none⟩) rfl v
  refine ⟨?_, store_of (by simpa using hgl) (hB.kept (by omega) (fun b h => by omega) kk)⟩
  have := k.set 0 v
  simpa using this

end Go.Proofs.YtihkljfcplfldaaGreat

namespace Go.Proofs.YtihkljfcplfldaaGreat
open Go.RowKit

/-- what Keep refuses not -/
def Keepable (n : Nat) (B : Nat → Blk) (a : Int) : Prop := Right n B ∧ There n B a
/-- the store with the block at a held once more -/
def keptB (B : Nat → Blk) (a : Int) : Nat → Blk := upd B (a - 1).toNat { B (a - 1).toNat with refs := (B (a - 1).toNat).refs + 1 }
/-- what Keep of one's own store answers -/
def Keeped (e : Ending) (w : World) (p : Addr) (g n : Nat) (B : Nat → Blk) (a : Int) (w' : World) : Prop :=
  (∃ e' : Int, e = .returned (.int .i64 e') ∧ e' ≠ 0 ∧ ¬ Keepable n B a) ∨ (e = .returned (.int .i64 0) ∧ Keepable n B a ∧ ∃ C, OwnPtr w' p g n C ∧ C = keptB B a)
/-- what store.Keep answers -/
def RetKeep (base : Nat) (e : Ending) (w : World) (n : Nat) (B : Nat → Blk) (a : Int) : Prop :=
  (∃ e', e = .returned (.tuple #[.agg #[.slice none 0 0], .int .i64 e']) ∧ e' ≠ 0 ∧ ¬ Keepable n B a) ∨ (Keepable n B a ∧ ∃ C, RetS base e w n C ∧ C = keptB B a)

set_option maxHeartbeats 1000000 in
set_option maxRecDepth 100000 in
theorem keep_any (p : Addr) (g n : Nat) (B : Nat → Blk) (a : Int) (w : World) (h : OwnPtr w p g n B) :
    Calls Tryz.prog 196 #[.pointer (some p), .int .i64 a] w fun e w' => Keeped e w p g n B a w' ∧ Out g w w' := by
  go_enter Tryz.func196, Tryz.ntmps196
  go_wp2_with fail
  refine (checkThere_any p _ n n B a w h.ptr).mono ?_
  rintro e w1 ⟨⟨e', rfl, he⟩, b1⟩
  replace h := h.below b1
  replace he := hid he
  by_cases h0 : e' = 0
  · have h0' : (e' == 0) = true := by simp [h0]
    obtain ⟨hR, ht⟩ := he.out.1 h0
    obtain ⟨i, rfl⟩ : ∃ i : Nat, a = (i : Int) + 1 := ⟨(a - 1).toNat, by have := ht.1; omega⟩
    have ei : ((i : Int) + 1 - 1).toNat = i := by omega
    have hi : i < n := by have := ht.2.1; omega
    have hn := hR.small
    have hbd := (hR.one i hi).bounds
    obtain ⟨ka, kn, kc, ba, bn, bc, hbk⟩ := h.own.cell hi
    have c0 := hbk.c0
    have f0 := h.own.free (i * 4) (by omega)
    have s1 := h.cell
    have J : Hid (∀ w', w' = w1.setCell ⟨g, i * 4, none⟩ (.int .i64 ((B i).refs + 1)) → OwnPtr w' p g n (keptB B ((i : Int) + 1)) ∧ Out g w w') := hid (by
      intro w' hw
      subst hw
      have kk := Kept.setCell (g := g) (Kept.refl _ w1) (p := ⟨g, i * 4, none⟩) rfl (.int .i64 ((B i).refs + 1))
      refine ⟨h.kept kk ?_, (Out.of_below b1).trans (Out.of_kept kk)⟩
      unfold keptB
      rw [ei]
      exact h.own.refs hi _ (by omega))
    replace hR := hid hR
    replace ht := hid ht
    clear hbk h
    generalize (B i).refs = rf at *
    go_wp2_with fail
    refine (at_own p g n n i _ hn s1 hi).mono ?_
    rintro e w2 ⟨rfl, rfl⟩
    go_wp2_with fail
    go_ret
    exact ⟨.inr ⟨rfl, ⟨hR.out, ht.out⟩, _, (J.out _ rfl).1, rfl⟩, (J.out _ rfl).2⟩
  · have h0' : (e' == 0) = false := by simp [h0]
    replace h := hid h
    go_wp2_with fail
    go_ret
    exact ⟨.inl ⟨e', rfl, h0, fun f => h0 (he.out.2 f)⟩, Out.of_below b1⟩

theorem run_string_of {Q : Nat → Prop} (w : World) {a : Option Addr} {n : Nat} {l : List Int} (c : Nat) (h : NumsAt Q .u8 w a n l) :
    (convert 28 9 (.slice a n c)).run Tryz.prog w = .ok (.string (strOfNums l)) w := by
  rcases Nat.eq_zero_or_pos n with hn | hn
  · subst hn
    obtain rfl : l = [] := List.eq_nil_of_length_eq_zero h.1
    rw [run_convert_bytes_string w 28 9 5 _ 0 c Tryz.underlying28 Tryz.underlying5 Tryz.underlying9]
    cases a <;> simp [Conv.bytesToString, loadCells]
    all_goals rfl
  · obtain ⟨b, off, rfl, _, _, hc⟩ := h.2.2 hn
    exact run_convert_bytes_arg w 28 5 Tryz.underlying28 Tryz.underlying5 b off n c l h.1 hc 9 Tryz.underlying9

theorem bytesEqual_same (a1 a2 : Option Addr) (n c m d : Nat) (Q1 Q2 : Nat → Prop) (l : List Int) (w : World) (h1 : NumsAt Q1 .u8 w a1 n l) (h2 : NumsAt Q2 .u8 w a2 m l) :
    Calls Tryz.prog 19 #[.slice a1 n c, .slice a2 m d] w fun e w' => e = .returned (.bool true) ∧ w' = w := by
  have g1 := run_string_of w c h1
  have g2 := run_string_of w d h2
  clear h1 h2
  go_enter Tryz.func19, Tryz.ntmps19
  go_wp2
  go_ret
  exact ⟨by simp, rfl⟩

/-- it answers a place, or -1, and then none is crowded -/
def RetCr (e : Ending) (n : Nat) (B : Nat → Blk) : Prop := (e = .returned (.int .i64 (-1)) ∧ ∀ k, k < n → (B k).refs ≤ 999000) ∨ (∃ i : Nat, e = .returned (.int .i64 i))

/-- it answers a Bool; false: none is crowded -/
def RetCb (e : Ending) (n : Nat) (B : Nat → Blk) : Prop := ∃ t, e = .returned (.bool t) ∧ (t = false → ∀ k, k < n → (B k).refs ≤ 999000)

end Go.Proofs.YtihkljfcplfldaaGreat
