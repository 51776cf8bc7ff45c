/-
  Contracts of blocks.letGo and of the function in it that calls itself. Nothing here is trusted.
-/
import Derived.Test.YtaagnojdpediladBlocks4
import Derived.Laws.EntriesVeiled
set_option linter.unusedVariables false
namespace Go.Proofs.Ytaagnojdpedilad
open Go.RowKit

theorem at_own (p : Addr) (g n c i : Nat) (w : World) (hn : n ≤ 400) (hs : w.cell? p = some (.slice (some ⟨g, 0, none⟩) n c)) (hi : i < n) :
    Calls Try.prog 36 #[.pointer (some p), .int .i64 ((i : Int) + 1)] w fun e w' => e = .returned (.pointer (some ⟨g, i * 4, none⟩)) ∧ w' = w := by
  have := at_ptr p g 0 n c i w hn hs hi
  rwa [Nat.zero_add] at this

/-- what the closure finds: the pointer to the store, itself -/
structure Env (w : World) (p : Addr) (sb lb g n : Nat) : Prop where
  s : w.cell? ⟨sb, 0, none⟩ = some (.pointer (some p))
  l : w.cell? ⟨lb, 0, none⟩ = some (.func (.func 60) #[] #[.pointer (some ⟨sb, 0, none⟩), .pointer (some ⟨lb, 0, none⟩)])
  q : w.cell? p = some (.slice (some ⟨g, 0, none⟩) n n)
  ns : sb ≠ g
  nl : lb ≠ g
  np : p.block ≠ g
theorem Env.kept {w w' : World} {p : Addr} {sb lb g n : Nat} (h : Env w p sb lb g n) (k : Kept g w w') : Env w' p sb lb g n :=
  ⟨(k.cell (p := ⟨sb, 0, none⟩) h.ns).trans h.s, (k.cell (p := ⟨lb, 0, none⟩) h.nl).trans h.l, (k.cell h.np).trans h.q, h.ns, h.nl, h.np⟩

theorem upd_upd (B : Nat → Blk) (i : Nat) (b c : Blk) : upd (upd B i b) i c = upd B i c := by
  funext j; unfold upd; split <;> rfl

theorem fell_zero {n : Nat} {B : Nat → Blk} (h : ∀ i, i < n → Form n B (B i)) : Fell n B B [0] := (fell_nil h).skip

/-- what the closure leaves -/
def Less (w : World) (g n : Nat) (B : Nat → Blk) (ks T : List Int) (w' : World) : Prop := Kept g w w' ∧ ∃ C, Own w' g n C ∧ RightT n C T ∧ Fell n B C ks

set_option maxHeartbeats 2000000 in
set_option maxRecDepth 100000 in
theorem less_any (p : Addr) (sb lb g n : Nat) (hn : n ≤ 400) (f : Nat) : ∀ (B : Nat → Blk) (la : Option Addr) (ln lc : Nat) (ks T : List Int) (w : World), NumsAt (fun b => b ≠ g) .i64 w la ln ks → ln ≤ 1000 → RightT n B (ks ++ T) → (∀ k : Nat, ((k : Int) + 1) ∈ ks → (B k).level < f) → Env w p sb lb g n → Own w g n B →
    Calls Try.prog 60 #[.slice la ln lc, .pointer (some ⟨sb, 0, none⟩), .pointer (some ⟨lb, 0, none⟩)] w fun e w' => e = .returned (.tuple #[]) ∧ Less w g n B ks T w' := by
  induction f using Nat.strongRecOn with
  | _ f ih =>
    intro B la ln lc ks T w hN hln hR hlev hE hO
    have hks := hid hN.1
    replace hN := hid hN
    replace hR := hid hR
    replace hO := hid hO
    replace hlev := hid hlev
    replace hE := hid hE
    replace ih := hid ih
    go_enter Try.func60, Try.ntmps60
    go_wp2_with fail
    go_loopw [10] (fun v wr => ∃ j : Nat, j ≤ ln ∧ v = .int .i64 j ∧ Kept g w wr ∧ ∃ C, Own wr g n C ∧ RightT n C (ks.drop j ++ T) ∧ Fell n B C (ks.take j)) (fun v _ => ln - (Go.RowKit.intOf v).toNat)
    case atStart => exact ⟨0, Nat.zero_le _, rfl, Kept.refl _ _, _, hO.out, hR.out, by simpa using fell_nil hR.out.one⟩
    case round =>
      clear hO hR
      obtain ⟨j, hjn, rfl, hkp, C, hO, hR, hF⟩ := hrel
      by_cases hlt : j < ln
      · obtain ⟨kb, ko, rfl, hkb, hgk, hc⟩ := hN.out.2.2 (by omega)
        have hck : wr.cell? ⟨kb, ko + j, none⟩ = some (.int .i64 (ks.getD j 0)) := (hkp.cell (p := ⟨kb, ko + j, none⟩) hgk).trans (hc j hlt)
        have hjl : j < ks.length := by rw [hks.out]; exact hlt
        have hmem : ks.getD j 0 ∈ ks := hN.out.getD hlt
        have htk := take_snoc hjl
        have hdr : ks.drop j = ks.getD j 0 :: ks.drop (j + 1) := by
          rw [List.drop_eq_getElem_cons hjl]; simp [List.getD, hjl]
        rw [hdr] at hR
        replace htk := hid htk
        replace hmem := hid hmem
        clear hc hdr hjl
        generalize ks.getD j 0 = x at *
        by_cases hx0 : x = 0
        · have hx0' : (x == 0) = true := by simp [hx0]
          have hF' : Hid (Fell n B C (ks.take (j + 1))) := hid (by rw [htk.out, hx0]; exact hF.trans (fell_zero hR.one))
          have hR1 : Hid (RightT n C (ks.drop (j + 1) ++ T)) := hid (by rw [hx0] at hR; exact hR.skip)
          replace hO := hid hO
          clear hF hR
          go_wp2_with fail
          go_roundw
          case rel => exact ⟨j + 1, by omega, by go_num, hkp, C, hO.out, hR1.out, hF'.out⟩
          case measure => simp [Go.RowKit.intOf]; omega
        · have hx0' : (x == 0) = false := by simp [hx0]
          have hR1 : RightT n C (x :: (ks.drop (j + 1) ++ T)) := hR
          have hth := hR1.there (List.mem_cons_self ..) hx0
          obtain ⟨m, rfl⟩ : ∃ m : Nat, x = (m : Int) + 1 := ⟨(x - 1).toNat, by have := hth.1.1; omega⟩
          have hm : m < n := by have := hth.1.2.1; omega
          have em : ((m : Int) + 1 - 1).toNat = m := by omega
          have hlm : (C m).level < f := by
            have h1 := hF.level hth.1
            rw [em] at h1
            have h3 := hlev.out m hmem.out
            omega
          have hge : 1 ≤ (C m).refs := by have := hth.2; rwa [em] at this
          have hbd := (hR1.one m hm).bounds
          have hE' := hE.out.kept hkp
          have s1 := hE'.s
          have s2 := hE'.q
          have l1 := hE'.l
          obtain ⟨ka, kn, kc, ba, bn, bc, hb⟩ := hO.cell hm
          have c0 := hb.c0
          have c1 := hb.c1
          have c2 := hb.c2
          have c3 := hb.c3
          have f0 := hO.free (m * 4) (by omega)
          have f1 := hO.free (m * 4 + 1) (by omega)
          have f2 := hO.free (m * 4 + 2) (by omega)
          have f3 := hO.free (m * 4 + 3) (by omega)
          by_cases hr : 1 < (C m).refs
          · have J : Hid (∀ w', w' = wr.setCell ⟨g, m * 4, none⟩ (.int .i64 ((C m).refs - 1)) → ∃ j' : Nat, j' ≤ ln ∧ Value.int .i64 ((j : Int) + 1) = .int .i64 j' ∧ Kept g w w' ∧ ∃ C, Own w' g n C ∧ RightT n C (ks.drop j' ++ T) ∧ Fell n B C (ks.take j')) := hid (by
              intro w' hw
              subst hw
              refine ⟨j + 1, by omega, by go_num, hkp.trans (Kept.setCell (g := g) (Kept.refl _ _) (p := ⟨g, m * 4, none⟩) rfl _), _, hO.refs hm ((C m).refs - 1) (by omega), ?_, ?_⟩
              · have := step_more hR1 (by omega) (by omega) (by rw [em]; exact hr); rwa [em] at this
              · have := fell_more hR1.one (a := (m : Int) + 1) (by omega) (by omega) (by rw [em]; exact hr)
                rw [em] at this
                rw [htk.out]
                exact hF.trans this)
            have hr' : (0 : Int) < (C m).refs - 1 := by omega
            clear hO hR hR1 hF hE' hb hth hr hlm
            generalize (C m).refs = r at *
            go_wp2_with fail
            refine (at_own p g n n m _ hn s2 hm).mono ?_
            rintro e w1 ⟨rfl, rfl⟩
            go_wp2_with fail
            go_roundw
            case rel => exact J.out _ rfl
            case measure => simp [Go.RowKit.intOf]; omega
          · have hr1 : (C m).refs = 1 := by omega
            obtain ⟨hR', hrr, ha0⟩ := step_free hR1 (by omega) (by omega) (by rw [em]; exact hr)
            rw [em] at hR'
            clear hrr
            have hO1 := (hO.refs hm 0 (by omega)).put hm Blk.zero none 0 0 none 0 0 (numsAt_nil _ _ _ _) (numsAt_nil _ _ _ _) (by simp [Blk.zero]) (by simp [Blk.zero]) (by omega)
            rw [upd_upd] at hO1
            have hkp1 : Kept g wr (put4 (wr.setCell ⟨g, m * 4, none⟩ (.int .i64 0)) g (m * 4) (.int .i64 0) (.int .i64 0) (.slice none 0 0) (.slice none 0 0)) := (Kept.setCell (g := g) (Kept.refl _ wr) (p := ⟨g, m * 4, none⟩) rfl (.int .i64 0)).trans (kept_put4 _ _ _ _ _ _ _)
            have hlev1 : ∀ k : Nat, ((k : Int) + 1) ∈ (C m).kids → (upd C m Blk.zero k).level < ((C m).level.toNat : Int) := by
              intro k hk
              have hl0 := (hR1.one m hm).live hk
              rcases (hR1.one m hm).kids _ hk with h | ⟨_, h⟩
              · omega
              · rw [show ((k : Int) + 1 - 1).toNat = k by omega] at h
                by_cases ek : k = m
                · subst ek; rw [upd_same]; show (0 : Int) < _; omega
                · rw [upd_other _ _ _ _ ek]; omega
            have hvf : (C m).level.toNat < f := by omega
            have hdone : ∀ D, Fell n (upd C m Blk.zero) D (C m).kids → Fell n B D (ks.take (j + 1)) := by
              intro D hD
              rw [htk.out]
              exact hF.trans (fell_free hR1.one (by omega) (by omega) (by rw [em]; exact hr1) ha0 (by rw [em]; exact hD))
            have hkids := (hb.kids.weaken (R := fun b => b ≠ g) (fun b _ h => by omega)).kept (fun b h => h) hkp1
            have hkn4 : kn ≤ 4 := by rw [← hb.kids.1]; exact (hR1.one m hm).few
            have hE1 := hE'.kept hkp1
            have l2 := hE1.l
            have hr0 : (1 : Int) - 1 = 0 := rfl
            have hz : ¬ ((0 : Int) > 0) := by omega
            rw [hr1] at c0
            clear hb hR hR1 ha0 hlm hbd hge hr hO hth hE' hF
            generalize (C m).kids = cks at *
            generalize (C m).refs = rf at *
            generalize (C m).level = lv at *
            replace hO1 := hid hO1
            replace hlev1 := hid hlev1
            replace hdone := hid hdone
            replace hkids := hid hkids
            replace hR' := hid hR'
            replace hE1 := hid hE1
            replace hkp1 := hid hkp1
            clear hr1
            go_wp2_with fail
            refine (at_own p g n n m _ hn s2 hm).mono ?_
            rintro e w1 ⟨rfl, rfl⟩
            go_wp2_with fail
            refine (ih.out lv.toNat hvf (upd C m Blk.zero) ka kn kc cks (ks.drop (j + 1) ++ T) _ hkids.out (by omega) hR'.out hlev1.out hE1.out hO1.out).mono ?_
            rintro e w2 ⟨rfl, hk2, D, hO2, hR2, hF2⟩
            replace hO2 := hid hO2
            replace hR2 := hid hR2
            replace hF2 := hid hF2
            go_wp2_with fail
            go_roundw
            case rel => exact ⟨j + 1, by omega, by go_num, (hkp.trans hkp1.out).trans hk2, D, hO2.out, hR2.out, hdone.out D hF2.out⟩
            case measure => simp [Go.RowKit.intOf]; omega
      · obtain rfl : j = ln := by omega
        have e1 : ks.drop j = [] := List.drop_of_length_le (by rw [hks.out]; exact Nat.le_refl _)
        have e2 : ks.take j = ks := List.take_of_length_le (by rw [hks.out]; exact Nat.le_refl _)
        rw [e1, List.nil_append] at hR
        rw [e2] at hF
        replace hO := hid hO
        replace hF := hid hF
        replace hR := hid hR
        clear e1 e2
        go_wp2_with fail
        go_end0
        exact ⟨rfl, hkp, C, hO.out, hR.out, hF.out⟩

theorem checkThere_any (p : Addr) (a : Option Addr) (n c : Nat) (B : Nat → Blk) (x : Int) (w : World) (h : PtrAt w p a n c B) :
    Calls Try.prog 43 #[.pointer (some p), .int .i64 x] w fun e w' => RetE e (Right n B ∧ There n B x) ∧ Below w.heap.size w w' := by
  go_enter Try.func43, Try.ntmps43
  go_wp2_with fail
  refine (check_any p a n c B w h).mono ?_
  rintro e w1 ⟨⟨e', rfl, he⟩, hb1⟩
  replace h := h.below hb1
  have hs := h.cell
  replace he := hid he
  replace h := hid h
  by_cases h0 : e' = 0
  · have h0' : (e' == 0) = true := by simp [h0]
    have hR := hid (he.out.1 h0)
    go_wp2_with fail
    refine (there_any p a n c B x _ hR.out.small hs h.out.store).mono ?_
    rintro e w1 ⟨⟨t, rfl, ht⟩, rfl⟩
    replace ht := hid ht
    cases t
    · go_wp2_with fail
      go_ret
      exact ⟨retE_no 5 (by omega) (fun e => by simpa using ht.out.2 e.2), hb1⟩
    · go_wp2_with fail
      go_ret
      exact ⟨retE_yes ⟨hR.out, by simpa using ht.out⟩, hb1⟩
  · have h0' : (e' == 0) = false := by simp [h0]
    go_wp2_with fail
    go_ret
    exact ⟨retE_no e' h0 (fun f => h0 (he.out.2 f.1)), hb1⟩

theorem OwnPtr.ptr {w : World} {p : Addr} {g n : Nat} {B : Nat → Blk} (h : OwnPtr w p g n B) : PtrAt w p (some ⟨g, 0, none⟩) n n B := ⟨h.lt, h.cell, h.own.store⟩
theorem OwnPtr.below {w w' : World} {p : Addr} {g n : Nat} {B : Nat → Blk} (h : OwnPtr w p g n B) (hb : Below w.heap.size w w') : OwnPtr w' p g n B :=
  ⟨Nat.lt_of_lt_of_le h.lt hb.size, h.ne, (hb.cell h.lt).trans h.cell, h.own.below hb⟩
theorem OwnPtr.kept {w w' : World} {p : Addr} {g n : Nat} {B C : Nat → Blk} (h : OwnPtr w p g n B) (hk : Kept g w w') (ho : Own w' g n C) : OwnPtr w' p g n C :=
  ⟨by rw [hk.size]; exact h.lt, h.ne, (hk.cell h.ne).trans h.cell, ho⟩

/-- what was there but block g is as it was -/
structure Out (g : Nat) (w w' : World) : Prop where
  os : w'.os = w.os
  tape : w'.tape = w.tape
  output : w'.output = w.output
  size : w.heap.size ≤ w'.heap.size
  block : ∀ k, k < w.heap.size → k ≠ g → w'.heap[k]? = w.heap[k]?
theorem Out.of_below {g : Nat} {w w' : World} (h : Below w.heap.size w w') : Out g w w' := ⟨h.os, h.tape, h.output, h.size, fun k hk _ => h.block k hk⟩
theorem Out.of_kept {g : Nat} {w w' : World} (h : Kept g w w') : Out g w w' := ⟨h.os, h.tape, h.output, Nat.le_of_eq h.size.symm, fun k _ hk => h.block k hk⟩
theorem Out.trans {g : Nat} {a b c : World} (h : Out g a b) (k : Out g b c) : Out g a c :=
  ⟨k.os.trans h.os, k.tape.trans h.tape, k.output.trans h.output, Nat.le_trans h.size k.size, fun i hi hg => (k.block i (Nat.lt_of_lt_of_le hi h.size) hg).trans (h.block i hi hg)⟩
theorem Out.below {g B : Nat} {w w' : World} (h : Out g w w') (hB : B ≤ g) (hs : B ≤ w.heap.size) : Below B w w' := ⟨h.os, h.tape, h.output, h.size, fun k hk => h.block k (by omega) (by omega)⟩
theorem Out.cell {g : Nat} {w w' : World} (h : Out g w w') {p : Addr} (hp : p.block < w.heap.size) (hg : p.block ≠ g) : w'.cell? p = w.cell? p := World.cell?_of_block (w := w) (h.block p.block hp hg)

set_option maxHeartbeats 2000000 in
set_option maxRecDepth 100000 in
/-- each of a list is let go -/
theorem letGo_any (p : Addr) (g n : Nat) (B : Nat → Blk) (la : Option Addr) (ln lc : Nat) (ks : List Int) (w : World) (h : OwnPtr w p g n B) (hN : NumsAt (fun b => b ≠ g) .i64 w la ln ks) (hln : ln ≤ 1000) (hR : RightT n B ks) :
    Calls Try.prog 54 #[.pointer (some p), .slice la ln lc] w fun e w' => e = .returned (.tuple #[]) ∧ Out g w w' ∧ ∃ C, OwnPtr w' p g n C ∧ Right n C ∧ Fell n B C ks := by
  have hmf : ∀ (fn : Fn) (first cap : Array Value) (w : World), (Instr.makeFunc fn first cap).run Try.prog w = .ok (.func fn first cap) w := fun _ _ _ _ => rfl
  have hg0 : g < w.heap.size := h.own.lt
  have b0 := (below_alloc w (.cells #[.pointer (some p)] 52)).alloc (by simp) (.cells #[.func (.func 60) #[] #[.pointer (some ⟨w.heap.size, 0, none⟩), .pointer (some ⟨w.heap.size + 1, 0, none⟩)]] 94)
  have k0 : CellsAt _ w.heap.size #[.pointer (some p)] 52 := (cellsAt_alloc w _ _).below (below_alloc _ (.cells #[.func (.func 60) #[] #[.pointer (some ⟨w.heap.size, 0, none⟩), .pointer (some ⟨w.heap.size + 1, 0, none⟩)]] 94))
  have k1 := cellsAt_alloc2 w (.cells #[.pointer (some p)] 52) #[.func (.func 60) #[] #[.pointer (some ⟨w.heap.size, 0, none⟩), .pointer (some ⟨w.heap.size + 1, 0, none⟩)]] 94
  have hn := hR.small
  replace h := h.below b0
  replace hN := hN.below b0
  replace hR := hid hR
  replace hN := hid hN
  replace h := hid h
  replace k0 := hid k0
  replace k1 := hid k1
  go_enter Try.func54, Try.ntmps54
  go_wp2_with fail
  generalize (w.alloc (.cells #[.pointer (some p)] 52)).alloc (.cells #[.func (.func 60) #[] #[.pointer (some ⟨w.heap.size, 0, none⟩), .pointer (some ⟨w.heap.size + 1, 0, none⟩)]] 94) = w3 at *
  have e0 := k0.out.cell 0
  have e1 := k1.out.cell 0
  simp at e0 e1
  have hE : Env w3 p w.heap.size (w.heap.size + 1) g n := ⟨e0, e1, h.out.cell, by omega, by omega, h.out.ne⟩
  have hT : RightT n B (ks ++ []) := by rw [List.append_nil]; exact hR.out
  refine (less_any p w.heap.size (w.heap.size + 1) g n hn 4 B la ln lc ks [] w3 hN.out hln hT (fun k hk => ?_) hE h.out.own).mono ?_
  · rcases hR.out.pend _ hk with h0 | ⟨h1, h2⟩
    · omega
    · have := (hR.out.one k (by omega)).bounds; omega
  rintro e w4 ⟨rfl, hk4, C, hO4, hR4, hF4⟩
  have h4 := h.out.kept hk4 hO4
  replace h4 := hid h4
  replace hR4 := hid hR4
  replace hF4 := hid hF4
  replace b0 := hid ((Out.of_below (g := g) b0).trans (Out.of_kept hk4))
  clear hk4 hO4 hE e0 e1 hT
  go_wp2_with fail
  go_end0
  exact ⟨rfl, b0.out, C, h4.out, hR4.out, hF4.out⟩

end Go.Proofs.Ytaagnojdpedilad
