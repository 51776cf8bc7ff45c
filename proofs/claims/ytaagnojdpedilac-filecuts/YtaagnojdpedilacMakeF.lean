/-
  blocks.Make once more, with what becomes of the lists' places. Nothing here is trusted.
-/
import Derived.Test.YtaagnojdpedilacMakeB
set_option linter.unusedVariables false
namespace Go.Proofs.Ytaagnojdpedilac
open Go.RowKit

/-- a cell of the store holds what it held, or a list in new memory -/
def FreshC (w w' : World) (a : Addr) : Prop := w'.cell? a = w.cell? a ∨ ∃ (x : Option Addr) (ln lc : Nat), w'.cell? a = some (.slice x ln lc) ∧ (0 < ln → ∃ b off, x = some ⟨b, off, none⟩ ∧ w.heap.size ≤ b)
/-- each list of the store in block g lies where it lay, or in new memory -/
def FreshL (w w' : World) (g n : Nat) : Prop := ∀ k, k < n → FreshC w w' ⟨g, k * 4 + 2, none⟩ ∧ FreshC w w' ⟨g, k * 4 + 3, none⟩
theorem FreshC.trans {a b c : World} {x : Addr} (h : FreshC a b x) (k : FreshC b c x) (hs : a.heap.size ≤ b.heap.size) : FreshC a c x := by
  rcases k with k | ⟨y, ln, lc, k1, k2⟩
  · rcases h with h | ⟨y, ln, lc, h1, h2⟩
    · exact .inl (k.trans h)
    · exact .inr ⟨y, ln, lc, k.trans h1, h2⟩
  · exact .inr ⟨y, ln, lc, k1, fun hn => by obtain ⟨b, off, e, hb⟩ := k2 hn; exact ⟨b, off, e, Nat.le_trans hs hb⟩⟩
theorem FreshL.trans {a b c : World} {g n : Nat} (h : FreshL a b g n) (k : FreshL b c g n) (hs : a.heap.size ≤ b.heap.size) : FreshL a c g n := fun i hi => ⟨(h i hi).1.trans (k i hi).1 hs, (h i hi).2.trans (k i hi).2 hs⟩
theorem FreshL.of_below {w w' : World} {g n : Nat} (h : Below w.heap.size w w') (hg : g < w.heap.size) : FreshL w w' g n := fun k _ => ⟨.inl (h.cell (p := ⟨g, k * 4 + 2, none⟩) hg), .inl (h.cell (p := ⟨g, k * 4 + 3, none⟩) hg)⟩
theorem FreshL.of_kept {w w' : World} {g n q : Nat} (h : Kept q w w') (hg : g ≠ q) : FreshL w w' g n := fun k _ => ⟨.inl (h.cell (p := ⟨g, k * 4 + 2, none⟩) hg), .inl (h.cell (p := ⟨g, k * 4 + 3, none⟩) hg)⟩
theorem FreshL.set {w w' : World} {g n : Nat} (h : FreshL w w' g n) (m : Nat) (v : Value) : FreshL w (w'.setCell ⟨g, m * 4, none⟩ v) g n := fun k hk => by
  have e1 : (w'.setCell ⟨g, m * 4, none⟩ v).cell? ⟨g, k * 4 + 2, none⟩ = w'.cell? ⟨g, k * 4 + 2, none⟩ := setCell_miss (by omega)
  have e2 : (w'.setCell ⟨g, m * 4, none⟩ v).cell? ⟨g, k * 4 + 3, none⟩ = w'.cell? ⟨g, k * 4 + 3, none⟩ := setCell_miss (by omega)
  unfold FreshC
  rw [e1, e2]
  exact h k hk
theorem put_fresh {w w4 w5 : World} {g n i : Nat} {v0 v1 : Value} {ka ba xa ya : Option Addr} {kn kc bn bc xn xc yn yc : Nat} {K1 K2 : List Int} (b1 : Below w.heap.size w w4) (b5 : Below w4.heap.size w4 w5) (hg : g < w.heap.size) (hi : i < n)
    (d2 : w5.cell? ⟨g, i * 4 + 2, none⟩ = some (.slice xa xn xc)) (d3 : w5.cell? ⟨g, i * 4 + 3, none⟩ = some (.slice ya yn yc)) (hK : NumsAt (fun b => w4.heap.size ≤ b) .i64 w5 ka kn K1) (hB : NumsAt (fun b => w4.heap.size ≤ b) .u8 w5 ba bn K2) :
    FreshL w (put4 w5 g (i * 4) v0 v1 (.slice ka kn kc) (.slice ba bn bc)) g n := by
  have hs := b1.size
  have f5 : FreshL w w5 g n := FreshL.of_below (Below.tr b1 b5) hg
  intro k hk
  by_cases e : k = i
  · subst e
    refine ⟨.inr ⟨ka, kn, kc, ?_, fun hn => ?_⟩, .inr ⟨ba, bn, bc, ?_, fun hn => ?_⟩⟩
    · rw [setCell_miss (by omega)]
      exact setCell_hit (u := .slice xa xn xc) (by rw [setCell_miss (by omega), setCell_miss (by omega)]; exact d2)
    · obtain ⟨b, off, e, _, hq, _⟩ := hK.2.2 hn; exact ⟨b, off, e, by omega⟩
    · exact setCell_hit (u := .slice ya yn yc) (by rw [setCell_miss (by omega), setCell_miss (by omega), setCell_miss (by omega)]; exact d3)
    · obtain ⟨b, off, e, _, hq, _⟩ := hB.2.2 hn; exact ⟨b, off, e, by omega⟩
  · have e1 : (put4 w5 g (i * 4) v0 v1 (.slice ka kn kc) (.slice ba bn bc)).cell? ⟨g, k * 4 + 2, none⟩ = w5.cell? ⟨g, k * 4 + 2, none⟩ := by rw [setCell_miss (by omega), setCell_miss (by omega), setCell_miss (by omega), setCell_miss (by omega)]
    have e2 : (put4 w5 g (i * 4) v0 v1 (.slice ka kn kc) (.slice ba bn bc)).cell? ⟨g, k * 4 + 3, none⟩ = w5.cell? ⟨g, k * 4 + 3, none⟩ := by rw [setCell_miss (by omega), setCell_miss (by omega), setCell_miss (by omega), setCell_miss (by omega)]
    unfold FreshC
    rw [e1, e2]
    exact f5 k hk

/-- a store of one's own, of which no list lies in block q -/
theorem OwnPtr.past {w w' wq : World} {p : Addr} {g n q : Nat} {B C : Nat → Blk} {v : Value} {d : Nat} (h : OwnPtr w p g n B) (hq : w.heap.size ≤ q) (k : OwnPtr w' p g n C) (hf : FreshL wq w' g n) (hw2 : ∀ k, k < n → wq.cell? ⟨g, k * 4 + 2, none⟩ = w.cell? ⟨g, k * 4 + 2, none⟩ ∧ wq.cell? ⟨g, k * 4 + 3, none⟩ = w.cell? ⟨g, k * 4 + 3, none⟩) (hlt : q < wq.heap.size) :
    OwnPtr (w'.setCell ⟨q, d, none⟩ v) p g n C := by
  have hpl := h.lt
  have hgl := h.own.lt
  have hk : Kept q w' (w'.setCell ⟨q, d, none⟩ v) := Kept.setCell (Kept.refl _ _) (p := ⟨q, d, none⟩) rfl v
  refine ⟨by rw [hk.size]; exact k.lt, k.ne, (hk.cell (by omega)).trans k.cell, ⟨by rw [hk.size]; exact k.own.lt, fun i hi => ?_, fun i hi => (hk.frozen (p := ⟨g, i, none⟩) (by show g ≠ q; omega)).trans (k.own.free i hi)⟩⟩
  obtain ⟨ka, kn, kc, ba, bn, bc, b⟩ := k.own.cell hi
  obtain ⟨ka', kn', kc', ba', bn', bc', b'⟩ := h.own.cell hi
  rw [Nat.zero_add]
  have key : ∀ {kd : IntKind} {x x' : Option Addr} {ln lc ln' lc' j : Nat} {L L' : List Int}, FreshC wq w' ⟨g, i * 4 + j, none⟩ → wq.cell? ⟨g, i * 4 + j, none⟩ = w.cell? ⟨g, i * 4 + j, none⟩ → w'.cell? ⟨g, i * 4 + j, none⟩ = some (.slice x ln lc) → w.cell? ⟨g, i * 4 + j, none⟩ = some (.slice x' ln' lc') →
      NumsAt (fun b => g < b) kd w x' ln' L' → NumsAt (fun b => g < b) kd w' x ln L → NumsAt (fun b => g < b) kd (w'.setCell ⟨q, d, none⟩ v) x ln L := by
    intro kd x x' ln lc ln' lc' j L L' hfc hc hw' hw0 hL' hL
    have hne : 0 < ln → ∃ b off, x = some ⟨b, off, none⟩ ∧ b ≠ q := by
      intro hn
      rcases hfc with e | ⟨y, ln2, lc2, e, hy⟩
      · rw [hw', hc, hw0] at e
        simp at e
        obtain ⟨e1, e2, _⟩ := e
        obtain ⟨b, off, e3, hlt', _⟩ := hL'.2.2 (by omega)
        exact ⟨b, off, by rw [e1, e3], by omega⟩
      · rw [hw'] at e
        simp at e
        obtain ⟨e1, e2, _⟩ := e
        obtain ⟨b, off, e3, hb⟩ := hy (by omega)
        exact ⟨b, off, by rw [e1, e3], by omega⟩
    refine ⟨hL.1, hL.2.1, fun hn => ?_⟩
    obtain ⟨b, off, rfl, hlt', hgb, hcs⟩ := hL.2.2 hn
    obtain ⟨b2, off2, e, hne'⟩ := hne hn
    simp at e
    obtain ⟨rfl, rfl⟩ := e
    exact ⟨b, off, rfl, by rw [hk.size]; exact hlt', hgb, fun t ht => (hk.cell (p := ⟨b, off + t, none⟩) hne').trans (hcs t ht)⟩
  have hfi := hf i hi
  have hwi := hw2 i hi
  have gq : g ≠ q := by omega
  exact ⟨ka, kn, kc, ba, bn, bc, (hk.cell (p := ⟨g, i * 4, none⟩) gq).trans b.c0, (hk.cell (p := ⟨g, i * 4 + 1, none⟩) gq).trans b.c1, (hk.cell (p := ⟨g, i * 4 + 2, none⟩) gq).trans b.c2, (hk.cell (p := ⟨g, i * 4 + 3, none⟩) gq).trans b.c3,
    key hfi.1 hwi.1 b.c2 b'.c2 b'.kids b.kids, key hfi.2 hwi.2 b.c3 b'.c3 b'.bytes b.bytes, b.refs, b.level, b.caps⟩

set_option maxHeartbeats 2000000 in
set_option maxRecDepth 100000 in
theorem makeF_any (p : Addr) (g n : Nat) (B : Nat → Blk) (K : Blk) (ka : Option Addr) (kn kc : Nat) (ba : Option Addr) (bn bc : Nat) (Q : Nat → Prop) (w : World) (h : OwnPtr w p g n B)
    (hQ : ∀ b, Q b → b ≠ g) (hk : NumsAt Q .i64 w ka kn K.kids) (hb : NumsAt Q .u8 w ba bn K.bytes) (hl : -9223372036854775808 ≤ K.level ∧ K.level ≤ 9223372036854775807) (hcc : kn ≤ kc ∧ bn ≤ bc) :
    Calls Try.prog 98 #[.pointer (some p), .agg #[.int .i64 K.refs, .int .i64 K.level, .slice ka kn kc, .slice ba bn bc]] w fun e w' => Made e p g n B K w' ∧ Out g w w' ∧ FreshL w w' g n := by
  have hg0 : g < w.heap.size := h.own.lt
  have b0 := below_alloc w (.cells #[.int .i64 K.refs, .int .i64 K.level, .slice ka kn kc, .slice ba bn bc] 70)
  have k0 := cellsAt_alloc w #[.int .i64 K.refs, .int .i64 K.level, .slice ka kn kc, .slice ba bn bc] 70
  replace k0 := hid k0
  replace hk := hid hk
  replace hb := hid hb
  replace h := hid h
  replace hQ := hid hQ
  go_enter Try.func98, Try.ntmps98
  go_wp2_with fail
  generalize w.alloc (.cells #[.int .i64 K.refs, .int .i64 K.level, .slice ka kn kc, .slice ba bn bc] 70) = w0 at *
  refine (check_any p _ n n B w0 (h.out.below b0).ptr).mono ?_
  rintro e w1 ⟨⟨e', rfl, he⟩, b1⟩
  replace k0 := k0.out.below b1
  replace b1 := Below.tr b0 b1
  clear b0
  replace he := hid he
  by_cases h0 : e' = 0
  · have h0' : (e' == 0) = true := by simp [h0]
    have hR := he.out.1 h0
    have hn := hR.small
    have c0 := k0.cell 0
    have f0 := k0.frozen 0
    simp at c0
    replace hR := hid hR
    replace k0 := hid k0
    go_wp2_with fail
    clear c0 f0
    have kk := Kept.setCell (g := w.heap.size) (Kept.refl _ w1) (p := ⟨w.heap.size, 0, none⟩) rfl (.int .i64 1)
    have k1 := k0.out.set 0 (.int .i64 1)
    simp only [List.setIfInBounds_toArray, List.set_cons_zero] at k1
    replace b1 := b1.trans (kk.below (Nat.le_refl _))
    clear kk k0
    generalize w1.setCell ⟨w.heap.size, 0, none⟩ (.int .i64 1) = w2 at *
    have hP2 := h.out.below b1
    refine (checkBlock_any p _ n n B w.heap.size 0 Q { K with refs := 1 } ka kn kc ba bn bc w2 hn hP2.cell hP2.own.store ⟨k1.cell 0, k1.cell 1, k1.cell 2, k1.cell 3, hk.out.below b1, hb.out.below b1, by simp, hl, hcc⟩).mono ?_
    rintro e w3 ⟨⟨e2, rfl, he2⟩, m, rfl⟩
    replace b1 := b1.trans (below_drewN w.heap.size w2 m)
    replace k1 := k1.below (below_drewN _ w2 m)
    clear hP2
    generalize w2.drewN m = w3 at *
    replace he2 := hid he2
    by_cases h2 : e2 = 0
    · have h2' : (e2 == 0) = true := by simp [h2]
      have hF := he2.out.1 h2
      have h4 : kn ≤ 4 ∧ bn ≤ 4 := by rw [← hk.out.1, ← hb.out.1]; exact ⟨hF.few, hF.few2⟩
      have hP3 := h.out.below b1
      have s3 := hP3.cell
      replace hF := hid hF
      replace k1 := hid k1
      go_wp2_with fail
      refine (indexFree_any _ n n B w3 hn hP3.own.store).mono ?_
      rintro e w4 ⟨hix, b4⟩
      replace k1 := hid (k1.out.below b4)
      replace b1 := Below.tr b1 b4
      clear b4 hP3 s3
      rcases hix with ⟨rfl, hno⟩ | ⟨i, hi, rfl, hi0, hmin⟩
      · replace hno := hid hno
        go_wp2_with fail
        go_ret2
        exact ⟨.inl ⟨8, rfl, by omega, ⟨fun f => by obtain ⟨_, _, k, hk', hk0⟩ := f; exact hno.out k hk' hk0, fun _ _ => rfl⟩⟩, Out.of_below b1, FreshL.of_below b1 hg0⟩
      · replace hi0 := hid hi0
        replace hmin := hid hmin
        have hP4 := h.out.below b1
        have s4 := hP4.cell
        have q0 := k1.out.cell 0
        have q1 := k1.out.cell 1
        have q2 := k1.out.cell 2
        have q3 := k1.out.cell 3
        simp at q0 q1 q2 q3
        have hlt4 := k1.out.lt
        obtain ⟨xa, xn, xc, ya, yn, yc, hx⟩ := hP4.own.cell hi
        have hiI : (i : Int) < (n : Int) := by omega
        have hiI0 : (0 : Int) ≤ (i : Int) := by omega
        replace hP4 := hid hP4
        replace hx := hid hx
        go_upto_region 11 with fail
        go_cut [] from 29 (fun wc => OwnPtr wc p g n (upd B i { K with refs := 1 }) ∧ CellsAt wc w.heap.size #[.int .i64 1, .int .i64 K.level, .slice ka kn kc, .slice ba bn bc] 70 ∧ Out g w wc ∧ FreshL w wc g n)
        case first =>
          go_region_with (go_at_call 73; refine (copyBlock_any { K with refs := 1 } ka kn kc ba bn bc Q _ ?_ ?_ h4).mono ?_; exact (hk.out.below b1).below (below_drew _ _); exact (hb.out.below b1).below (below_drew _ _); rintro e w5 ⟨⟨ka', kn', kc', ba', bn', bc', rfl, hK', hB', hc1', hc2'⟩, b5⟩; replace b5 : Below w4.heap.size w4 w5 := (below_drew _ _).trans b5; have s5 := (b5.cell (p := p) hP4.out.lt).trans s4; have hx5 := hx.out.below b5; have d0 := hx5.c0; have d1 := hx5.c1; have d2 := hx5.c2; have d3 := hx5.c3; have hO5 := hP4.out.own.below b5; have e0 := hO5.free (i * 4) (by omega); have e1 := hO5.free (i * 4 + 1) (by omega); have e2 := hO5.free (i * 4 + 2) (by omega); have e3 := hO5.free (i * 4 + 3) (by omega); have k5 := hid (k1.out.below b5); replace hK' := hid hK'; replace hB' := hid hB'; replace b5 := hid b5; clear hO5 hx5)
          all_goals (go_wp2_with fail; go_meet; exact ⟨put_own hP4.out b5.out hi { K with refs := 1 } hK'.out hB'.out (by simp) hl ⟨hc1', hc2'⟩, put_cells k5.out (by omega), put_out b1 b5.out hlt4, put_fresh b1 b5.out hg0 hi d2 d3 hK'.out hB'.out⟩)
        case rest =>
          obtain ⟨hP, hk5, hout, hfr⟩ := hcut
          replace hfr := hid hfr
          have q5 := hk5.cell 2
          simp at q5
          have hkl := hid hk.out.1
          replace hP := hid hP
          clear s4 q0 q1 q2 q3 hiI hiI0 hP4 hx k1 hk5
          go_wp2_with fail
          go_loopw [40] (fun v wr => ∃ j : Nat, j ≤ kn ∧ v = .int .i64 j ∧ OwnPtr wr p g n (bump (upd B i { K with refs := 1 }) K.kids j) ∧ Out g w wr ∧ FreshL w wr g n) (fun v _ => kn - (Go.RowKit.intOf v).toNat)
          case atStart => exact ⟨0, Nat.zero_le _, rfl, by rw [bump_zero]; exact hP.out, hout, hfr.out⟩
          case round =>
            clear hP hout q5 hfr
            obtain ⟨j, hjn, rfl, hP, hout, hfr⟩ := hrel
            replace hfr := hid hfr
            by_cases hlt : j < kn
            · obtain ⟨kb, ko, rfl, hkb, hqb, hc⟩ := hk.out.2.2 (by omega)
              have hck : wr.cell? ⟨kb, ko + j, none⟩ = some (.int .i64 (K.kids.getD j 0)) := (hout.cell (p := ⟨kb, ko + j, none⟩) hkb (hQ.out kb hqb)).trans (hc j hlt)
              have hjl : j < K.kids.length := by rw [hkl.out]; exact hlt
              have hkid := hF.out.kids _ (hk.out.getD hlt)
              have I1 := hid (bump_skip (upd B i { K with refs := 1 }) K.kids j hjl)
              have I2 := hid (fun m => bump_next (upd B i { K with refs := 1 }) K.kids j m hjl)
              have I3 := hid (bump_bd (n := n) (upd B i { K with refs := 1 }) K.kids j (by
                intro k hk'
                unfold upd
                split
                · simp
                · have := (hR.out.one k hk').bounds; omega))
              clear hc
              simp only at hkid
              generalize K.kids.getD j 0 = x at *
              by_cases hx0 : x = 0
              · have hx0' : (x == 0) = true := by simp [hx0]
                have hP' := hid (I1.out hx0 ▸ hP)
                replace hP := hid hP
                go_wp2_with fail
                go_roundw
                case rel => exact ⟨j + 1, by omega, by go_num, hP'.out, hout, hfr.out⟩
                case measure => simp [Go.RowKit.intOf]; omega
              · have hx0' : (x == 0) = false := by simp [hx0]
                obtain ⟨m, rfl, hm⟩ := kid_ix hkid hx0
                obtain ⟨xa, xn, xc, ya, yn, yc, hx⟩ := hP.own.cell hm
                have c0 := hx.c0
                have f0 := hP.own.free (m * 4) (by omega)
                have hbd := I3.out m hm
                have sp := hP.cell
                have hkl4 : K.kids.length ≤ 4 := by rw [hkl.out]; exact h4.1
                have hP' := hid (hP.kept (Kept.setCell (g := g) (Kept.refl _ wr) (p := ⟨g, m * 4, none⟩) rfl _) (hP.own.refs hm ((bump (upd B i { K with refs := 1 }) K.kids j m).refs + 1) (by omega)))
                rw [← I2.out m rfl] at hP'
                have ho' := hid (hout.trans (Out.of_kept (Kept.setCell (g := g) (Kept.refl _ wr) (p := ⟨g, m * 4, none⟩) rfl (.int .i64 ((bump (upd B i { K with refs := 1 }) K.kids j m).refs + 1)))))
                replace hP := hid hP
                clear hx I1 I2 I3 hkid
                generalize (bump (upd B i { K with refs := 1 }) K.kids j m).refs = rf at *
                go_wp2_with fail
                refine (at_own p g n n m _ hn sp hm).mono ?_
                rintro e w6 ⟨rfl, rfl⟩
                go_wp2_with fail
                go_roundw
                case rel => exact ⟨j + 1, by omega, by go_num, hP'.out, ho'.out, hfr.out.set m _⟩
                case measure => simp [Go.RowKit.intOf]; omega
            · obtain rfl : j = kn := by omega
              have hP' : Hid (OwnPtr wr p g n (made B K i)) := hid ⟨hP.lt, hP.ne, hP.cell, hP.own.congr (fun k _ => by rw [← hkl.out]; exact bump_made B K i n hi hi0.out hF.out k)⟩
              clear hP
              go_wp2_with fail
              go_ret2
              exact ⟨.inr ⟨i, hi, rfl, ⟨hR.out, hF.out, i, hi, hi0.out⟩, hi0.out, hmin.out, hP'.out⟩, hout, hfr.out⟩
    · have h2' : (e2 == 0) = false := by simp [h2]
      go_wp2_with fail
      go_ret2
      exact ⟨.inl ⟨e2, rfl, h2, ⟨fun f => h2 (he2.out.2 f.2.1), fun _ f => absurd (he2.out.2 f) h2⟩⟩, Out.of_below b1, FreshL.of_below b1 hg0⟩
  · have h0' : (e' == 0) = false := by simp [h0]
    go_wp2_with fail
    go_ret2
    exact ⟨.inl ⟨e', rfl, h0, ⟨fun f => h0 (he.out.2 f.1), fun f => absurd (he.out.2 f) h0⟩⟩, Out.of_below b1, FreshL.of_below b1 hg0⟩

end Go.Proofs.Ytaagnojdpedilac
