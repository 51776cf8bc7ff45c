/-
  Blocks5, Blocks6, DropS, MakeB, MakeS in one text. Nothing here is trusted.
-/
import Derived.Test.YtnmcgmpmcliinaaGreatPart03
import Derived.Laws.EntriesVeiled
import Derived.Deep.RegionWith
import Derived.Deep.Cut
set_option linter.unusedVariables false
namespace Go.Proofs.YtnmcgmpmcliinaaGreat
open Go.RowKit

theorem at_own (p : Addr) (g n c i : Nat) (w : World) (hn : n ≤ 400) (hs : w.cell? p = some (.slice (some ⟨g, 0, none⟩) n c)) (hi : i < n) :
    Calls Tryz.prog 121 #[.pointer (some p), .int .i64 ((i : Int) + 1)] w fun e w' => e = .returned (.pointer (some ⟨g, i * 4, none⟩)) ∧ w' = w := by
  have := at_ptr p g 0 n c i w hn hs hi
  rwa [Nat.zero_add] at this

/-- what the closure finds: the pointer to the store, itself -/
structure Env (w : World) (p : Addr) (sb lb g n : Nat) : Prop where
  s : w.cell? ⟨sb, 0, none⟩ = some (.pointer (some p))
  l : w.cell? ⟨lb, 0, none⟩ = some (.func (.func 152) #[] #[.pointer (some ⟨sb, 0, none⟩), .pointer (some ⟨lb, 0, none⟩)])
  q : w.cell? p = some (.slice (some ⟨g, 0, none⟩) n n)
  ns : sb ≠ g
  nl : lb ≠ g
  np : p.block ≠ g
theorem Env.kept {w w' : World} {p : Addr} {sb lb g n : Nat} (h : Env w p sb lb g n) (k : Kept g w w') : Env w' p sb lb g n :=
  ⟨(k.cell (p := ⟨sb, 0, none⟩) h.ns).trans h.s, (k.cell (p := ⟨lb, 0, none⟩) h.nl).trans h.l, (k.cell h.np).trans h.q, h.ns, h.nl, h.np⟩

theorem upd_upd (B : Nat → Blk) (i : Nat) (b c : Blk) : upd (upd B i b) i c = upd B i c := by
  funext j; unfold upd; split <;> rfl

theorem fell_zero {n : Nat} {B : Nat → Blk} (h : ∀ i, i < n → Form n B (B i)) : Fell n B B [0] := (fell_nil h).skip

/-- what the closure leaves -/
def Less (w : World) (g n : Nat) (B : Nat → Blk) (ks T : List Int) (w' : World) : Prop := Kept g w w' ∧ ∃ C, Own w' g n C ∧ RightT n C T ∧ Fell n B C ks

set_option maxHeartbeats 2000000 in
set_option maxRecDepth 100000 in
theorem less_any (p : Addr) (sb lb g n : Nat) (hn : n ≤ 400) (f : Nat) : ∀ (B : Nat → Blk) (la : Option Addr) (ln lc : Nat) (ks T : List Int) (w : World), NumsAt (fun b => b ≠ g) .i64 w la ln ks → ln ≤ 1000 → RightT n B (ks ++ T) → (∀ k : Nat, ((k : Int) + 1) ∈ ks → (B k).level < f) → Env w p sb lb g n → Own w g n B →
    Calls Tryz.prog 152 #[.slice la ln lc, .pointer (some ⟨sb, 0, none⟩), .pointer (some ⟨lb, 0, none⟩)] w fun e w' => e = .returned (.tuple #[]) ∧ Less w g n B ks T w' := by
  induction f using Nat.strongRecOn with
  | _ f ih =>
    intro B la ln lc ks T w hN hln hR hlev hE hO
    have hks := hid hN.1
    replace hN := hid hN
    replace hR := hid hR
    replace hO := hid hO
    replace hlev := hid hlev
    replace hE := hid hE
    replace ih := hid ih
    go_enter Tryz.func152, Tryz.ntmps152
    go_wp2_with fail
    go_loopw [10] (fun v wr => ∃ j : Nat, j ≤ ln ∧ v = .int .i64 j ∧ Kept g w wr ∧ ∃ C, Own wr g n C ∧ RightT n C (ks.drop j ++ T) ∧ Fell n B C (ks.take j)) (fun v _ => ln - (Go.RowKit.intOf v).toNat)
    case atStart => exact ⟨0, Nat.zero_le _, rfl, Kept.refl _ _, _, hO.out, hR.out, by simpa using fell_nil hR.out.one⟩
    case round =>
      clear hO hR
      obtain ⟨j, hjn, rfl, hkp, C, hO, hR, hF⟩ := hrel
      by_cases hlt : j < ln
      · obtain ⟨kb, ko, rfl, hkb, hgk, hc⟩ := hN.out.2.2 (by omega)
        have hck : wr.cell? ⟨kb, ko + j, none⟩ = some (.int .i64 (ks.getD j 0)) := (hkp.cell (p := ⟨kb, ko + j, none⟩) hgk).trans (hc j hlt)
        have hjl : j < ks.length := by rw [hks.out]; exact hlt
        have hmem : ks.getD j 0 ∈ ks := hN.out.getD hlt
        have htk := take_snoc hjl
        have hdr : ks.drop j = ks.getD j 0 :: ks.drop (j + 1) := by
          rw [List.drop_eq_getElem_cons hjl]; simp [List.getD, hjl]
        rw [hdr] at hR
        replace htk := hid htk
        replace hmem := hid hmem
        clear hc hdr hjl
        generalize ks.getD j 0 = x at *
        by_cases hx0 : x = 0
        · have hx0' : (x == 0) = true := by simp [hx0]
          have hF' : Hid (Fell n B C (ks.take (j + 1))) := hid (by rw [htk.out, hx0]; exact hF.trans (fell_zero hR.one))
          have hR1 : Hid (RightT n C (ks.drop (j + 1) ++ T)) := hid (by rw [hx0] at hR; exact hR.skip)
          replace hO := hid hO
          clear hF hR
          go_wp2_with fail
          go_roundw
          case rel => exact ⟨j + 1, by omega, by go_num, hkp, C, hO.out, hR1.out, hF'.out⟩
          case measure => simp [Go.RowKit.intOf]; omega
        · have hx0' : (x == 0) = false := by simp [hx0]
          have hR1 : RightT n C (x :: (ks.drop (j + 1) ++ T)) := hR
          have hth := hR1.there (List.mem_cons_self ..) hx0
          obtain ⟨m, rfl⟩ : ∃ m : Nat, x = (m : Int) + 1 := ⟨(x - 1).toNat, by have := hth.1.1; omega⟩
          have hm : m < n := by have := hth.1.2.1; omega
          have em : ((m : Int) + 1 - 1).toNat = m := by omega
          have hlm : (C m).level < f := by
            have h1 := hF.level hth.1
            rw [em] at h1
            have h3 := hlev.out m hmem.out
            omega
          have hge : 1 ≤ (C m).refs := by have := hth.2; rwa [em] at this
          have hbd := (hR1.one m hm).bounds
          have hE' := hE.out.kept hkp
          have s1 := hE'.s
          have s2 := hE'.q
          have l1 := hE'.l
          obtain ⟨ka, kn, kc, ba, bn, bc, hb⟩ := hO.cell hm
          have c0 := hb.c0
          have c1 := hb.c1
          have c2 := hb.c2
          have c3 := hb.c3
          have f0 := hO.free (m * 4) (by omega)
          have f1 := hO.free (m * 4 + 1) (by omega)
          have f2 := hO.free (m * 4 + 2) (by omega)
          have f3 := hO.free (m * 4 + 3) (by omega)
          by_cases hr : 1 < (C m).refs
          · have J : Hid (∀ w', w' = wr.setCell ⟨g, m * 4, none⟩ (.int .i64 ((C m).refs - 1)) → ∃ j' : Nat, j' ≤ ln ∧ Value.int .i64 ((j : Int) + 1) = .int .i64 j' ∧ Kept g w w' ∧ ∃ C, Own w' g n C ∧ RightT n C (ks.drop j' ++ T) ∧ Fell n B C (ks.take j')) := hid (by
              intro w' hw
              subst hw
              refine ⟨j + 1, by omega, by go_num, hkp.trans (Kept.setCell (g := g) (Kept.refl _ _) (p := ⟨g, m * 4, none⟩) rfl _), _, hO.refs hm ((C m).refs - 1) (by omega), ?_, ?_⟩
              · have := step_more hR1 (by omega) (by omega) (by rw [em]; exact hr); rwa [em] at this
              · have := fell_more hR1.one (a := (m : Int) + 1) (by omega) (by omega) (by rw [em]; exact hr)
                rw [em] at this
                rw [htk.out]
                exact hF.trans this)
            have hr' : (0 : Int) < (C m).refs - 1 := by omega
            clear hO hR hR1 hF hE' hb hth hr hlm
            generalize (C m).refs = r at *
            go_wp2_with fail
            refine (at_own p g n n m _ hn s2 hm).mono ?_
            rintro e w1 ⟨rfl, rfl⟩
            go_wp2_with fail
            go_roundw
            case rel => exact J.out _ rfl
            case measure => simp [Go.RowKit.intOf]; omega
          · have hr1 : (C m).refs = 1 := by omega
            obtain ⟨hR', hrr, ha0⟩ := step_free hR1 (by omega) (by omega) (by rw [em]; exact hr)
            rw [em] at hR'
            clear hrr
            have hO1 := (hO.refs hm 0 (by omega)).put hm Blk.zero none 0 0 none 0 0 (numsAt_nil _ _ _ _) (numsAt_nil _ _ _ _) (by simp [Blk.zero]) (by simp [Blk.zero]) (by omega)
            rw [upd_upd] at hO1
            have hkp1 : Kept g wr (put4 (wr.setCell ⟨g, m * 4, none⟩ (.int .i64 0)) g (m * 4) (.int .i64 0) (.int .i64 0) (.slice none 0 0) (.slice none 0 0)) := (Kept.setCell (g := g) (Kept.refl _ wr) (p := ⟨g, m * 4, none⟩) rfl (.int .i64 0)).trans (kept_put4 _ _ _ _ _ _ _)
            have hlev1 : ∀ k : Nat, ((k : Int) + 1) ∈ (C m).kids → (upd C m Blk.zero k).level < ((C m).level.toNat : Int) := by
              intro k hk
              have hl0 := (hR1.one m hm).live hk
              rcases (hR1.one m hm).kids _ hk with h | ⟨_, h⟩
              · omega
              · rw [show ((k : Int) + 1 - 1).toNat = k by omega] at h
                by_cases ek : k = m
                · subst ek; rw [upd_same]; show (0 : Int) < _; omega
                · rw [upd_other _ _ _ _ ek]; omega
            have hvf : (C m).level.toNat < f := by omega
            have hdone : ∀ D, Fell n (upd C m Blk.zero) D (C m).kids → Fell n B D (ks.take (j + 1)) := by
              intro D hD
              rw [htk.out]
              exact hF.trans (fell_free hR1.one (by omega) (by omega) (by rw [em]; exact hr1) ha0 (by rw [em]; exact hD))
            have hkids := (hb.kids.weaken (R := fun b => b ≠ g) (fun b _ h => by omega)).kept (fun b h => h) hkp1
            have hkn4 : kn ≤ 4 := by rw [← hb.kids.1]; exact (hR1.one m hm).few
            have hE1 := hE'.kept hkp1
            have l2 := hE1.l
            have hr0 : (1 : Int) - 1 = 0 := rfl
            have hz : ¬ ((0 : Int) > 0) := by omega
            rw [hr1] at c0
            clear hb hR hR1 ha0 hlm hbd hge hr hO hth hE' hF
            generalize (C m).kids = cks at *
            generalize (C m).refs = rf at *
            generalize (C m).level = lv at *
            replace hO1 := hid hO1
            replace hlev1 := hid hlev1
            replace hdone := hid hdone
            replace hkids := hid hkids
            replace hR' := hid hR'
            replace hE1 := hid hE1
            replace hkp1 := hid hkp1
            clear hr1
            go_wp2_with fail
            refine (at_own p g n n m _ hn s2 hm).mono ?_
            rintro e w1 ⟨rfl, rfl⟩
            go_wp2_with fail
            refine (ih.out lv.toNat hvf (upd C m Blk.zero) ka kn kc cks (ks.drop (j + 1) ++ T) _ hkids.out (by omega) hR'.out hlev1.out hE1.out hO1.out).mono ?_
            rintro e w2 ⟨rfl, hk2, D, hO2, hR2, hF2⟩
            replace hO2 := hid hO2
            replace hR2 := hid hR2
            replace hF2 := hid hF2
            go_wp2_with fail
            go_roundw
            case rel => exact ⟨j + 1, by omega, by go_num, (hkp.trans hkp1.out).trans hk2, D, hO2.out, hR2.out, hdone.out D hF2.out⟩
            case measure => simp [Go.RowKit.intOf]; omega
      · obtain rfl : j = ln := by omega
        have e1 : ks.drop j = [] := List.drop_of_length_le (by rw [hks.out]; exact Nat.le_refl _)
        have e2 : ks.take j = ks := List.take_of_length_le (by rw [hks.out]; exact Nat.le_refl _)
        rw [e1, List.nil_append] at hR
        rw [e2] at hF
        replace hO := hid hO
        replace hF := hid hF
        replace hR := hid hR
        clear e1 e2
        go_wp2_with fail
        go_end0
        exact ⟨rfl, hkp, C, hO.out, hR.out, hF.out⟩

theorem checkThere_any (p : Addr) (a : Option Addr) (n c : Nat) (B : Nat → Blk) (x : Int) (w : World) (h : PtrAt w p a n c B) :
    Calls Tryz.prog 188 #[.pointer (some p), .int .i64 x] w fun e w' => RetE e (Right n B ∧ There n B x) ∧ Below w.heap.size w w' := by
  go_enter Tryz.func188, Tryz.ntmps188
  go_wp2_with fail
  refine (check_any p a n c B w h).mono ?_
  rintro e w1 ⟨⟨e', rfl, he⟩, hb1⟩
  replace h := h.below hb1
  have hs := h.cell
  replace he := hid he
  replace h := hid h
  by_cases h0 : e' = 0
  · have h0' : (e' == 0) = true := by simp [h0]
    have hR := hid (he.out.1 h0)
    go_wp2_with fail
    refine (there_any p a n c B x _ hR.out.small hs h.out.store).mono ?_
    rintro e w1 ⟨⟨t, rfl, ht⟩, rfl⟩
    replace ht := hid ht
    cases t
    · go_wp2_with fail
      go_ret
      exact ⟨retE_no 5 (by omega) (fun e => by simpa using ht.out.2 e.2), hb1⟩
    · go_wp2_with fail
      go_ret
      exact ⟨retE_yes ⟨hR.out, by simpa using ht.out⟩, hb1⟩
  · have h0' : (e' == 0) = false := by simp [h0]
    go_wp2_with fail
    go_ret
    exact ⟨retE_no e' h0 (fun f => h0 (he.out.2 f.1)), hb1⟩

theorem OwnPtr.ptr {w : World} {p : Addr} {g n : Nat} {B : Nat → Blk} (h : OwnPtr w p g n B) : PtrAt w p (some ⟨g, 0, none⟩) n n B := ⟨h.lt, h.cell, h.own.store⟩
theorem OwnPtr.below {w w' : World} {p : Addr} {g n : Nat} {B : Nat → Blk} (h : OwnPtr w p g n B) (hb : Below w.heap.size w w') : OwnPtr w' p g n B :=
  ⟨Nat.lt_of_lt_of_le h.lt hb.size, h.ne, (hb.cell h.lt).trans h.cell, h.own.below hb⟩
theorem OwnPtr.kept {w w' : World} {p : Addr} {g n : Nat} {B C : Nat → Blk} (h : OwnPtr w p g n B) (hk : Kept g w w') (ho : Own w' g n C) : OwnPtr w' p g n C :=
  ⟨by rw [hk.size]; exact h.lt, h.ne, (hk.cell h.ne).trans h.cell, ho⟩

/-- what was there but block g is as it was -/
structure Out (g : Nat) (w w' : World) : Prop where
  os : w'.os = w.os
  tape : w'.tape = w.tape
  output : w'.output = w.output
  size : w.heap.size ≤ w'.heap.size
  block : ∀ k, k < w.heap.size → k ≠ g → w'.heap[k]? = w.heap[k]?
theorem Out.of_below {g : Nat} {w w' : World} (h : Below w.heap.size w w') : Out g w w' := ⟨h.os, h.tape, h.output, h.size, fun k hk _ => h.block k hk⟩
theorem Out.of_kept {g : Nat} {w w' : World} (h : Kept g w w') : Out g w w' := ⟨h.os, h.tape, h.output, Nat.le_of_eq h.size.symm, fun k _ hk => h.block k hk⟩
theorem Out.trans {g : Nat} {a b c : World} (h : Out g a b) (k : Out g b c) : Out g a c :=
  ⟨k.os.trans h.os, k.tape.trans h.tape, k.output.trans h.output, Nat.le_trans h.size k.size, fun i hi hg => (k.block i (Nat.lt_of_lt_of_le hi h.size) hg).trans (h.block i hi hg)⟩
theorem Out.below {g B : Nat} {w w' : World} (h : Out g w w') (hB : B ≤ g) (hs : B ≤ w.heap.size) : Below B w w' := ⟨h.os, h.tape, h.output, h.size, fun k hk => h.block k (by omega) (by omega)⟩
theorem Out.cell {g : Nat} {w w' : World} (h : Out g w w') {p : Addr} (hp : p.block < w.heap.size) (hg : p.block ≠ g) : w'.cell? p = w.cell? p := World.cell?_of_block (w := w) (h.block p.block hp hg)

set_option maxHeartbeats 2000000 in
set_option maxRecDepth 100000 in
/-- each of a list is let go -/
theorem letGo_any (p : Addr) (g n : Nat) (B : Nat → Blk) (la : Option Addr) (ln lc : Nat) (ks : List Int) (w : World) (h : OwnPtr w p g n B) (hN : NumsAt (fun b => b ≠ g) .i64 w la ln ks) (hln : ln ≤ 1000) (hR : RightT n B ks) :
    Calls Tryz.prog 122 #[.pointer (some p), .slice la ln lc] w fun e w' => e = .returned (.tuple #[]) ∧ Out g w w' ∧ ∃ C, OwnPtr w' p g n C ∧ Right n C ∧ Fell n B C ks := by
  have hmf : ∀ (fn : Fn) (first cap : Array Value) (w : World), (Instr.makeFunc fn first cap).run Tryz.prog w = .ok (.func fn first cap) w := fun _ _ _ _ => rfl
  have hg0 : g < w.heap.size := h.own.lt
  have b0 := (below_alloc w (.cells #[.pointer (some p)] 70)).alloc (by simp) (.cells #[.func (.func 152) #[] #[.pointer (some ⟨w.heap.size, 0, none⟩), .pointer (some ⟨w.heap.size + 1, 0, none⟩)]] 203)
  have k0 : CellsAt _ w.heap.size #[.pointer (some p)] 70 := (cellsAt_alloc w _ _).below (below_alloc _ (.cells #[.func (.func 152) #[] #[.pointer (some ⟨w.heap.size, 0, none⟩), .pointer (some ⟨w.heap.size + 1, 0, none⟩)]] 203))
  have k1 := cellsAt_alloc2 w (.cells #[.pointer (some p)] 70) #[.func (.func 152) #[] #[.pointer (some ⟨w.heap.size, 0, none⟩), .pointer (some ⟨w.heap.size + 1, 0, none⟩)]] 203
  have hn := hR.small
  replace h := h.below b0
  replace hN := hN.below b0
  replace hR := hid hR
  replace hN := hid hN
  replace h := hid h
  replace k0 := hid k0
  replace k1 := hid k1
  go_enter Tryz.func122, Tryz.ntmps122
  go_wp2_with fail
  generalize (w.alloc (.cells #[.pointer (some p)] 70)).alloc (.cells #[.func (.func 152) #[] #[.pointer (some ⟨w.heap.size, 0, none⟩), .pointer (some ⟨w.heap.size + 1, 0, none⟩)]] 203) = w3 at *
  have e0 := k0.out.cell 0
  have e1 := k1.out.cell 0
  simp at e0 e1
  have hE : Env w3 p w.heap.size (w.heap.size + 1) g n := ⟨e0, e1, h.out.cell, by omega, by omega, h.out.ne⟩
  have hT : RightT n B (ks ++ []) := by rw [List.append_nil]; exact hR.out
  refine (less_any p w.heap.size (w.heap.size + 1) g n hn 4 B la ln lc ks [] w3 hN.out hln hT (fun k hk => ?_) hE h.out.own).mono ?_
  · rcases hR.out.pend _ hk with h0 | ⟨h1, h2⟩
    · omega
    · have := (hR.out.one k (by omega)).bounds; omega
  rintro e w4 ⟨rfl, hk4, C, hO4, hR4, hF4⟩
  have h4 := h.out.kept hk4 hO4
  replace h4 := hid h4
  replace hR4 := hid hR4
  replace hF4 := hid hF4
  replace b0 := hid ((Out.of_below (g := g) b0).trans (Out.of_kept hk4))
  clear hk4 hO4 hE e0 e1 hT
  go_wp2_with fail
  go_end0
  exact ⟨rfl, b0.out, C, h4.out, hR4.out, hF4.out⟩

end Go.Proofs.YtnmcgmpmcliinaaGreat

namespace Go.Proofs.YtnmcgmpmcliinaaGreat
open Go.RowKit

theorem below_drew (B : Nat) (w : World) : Below B w w.drew := ⟨rfl, rfl, rfl, Nat.le_refl _, fun _ _ => rfl⟩

/-- what Drop of one's own store answers: an error, and nothing has turned; or what it has come to be -/
def Dropped (e : Ending) (w : World) (p : Addr) (g n : Nat) (B : Nat → Blk) (a : Int) (w' : World) : Prop :=
  (∃ e' : Int, e = .returned (.int .i64 e') ∧ e' ≠ 0 ∧ ¬ (Right n B ∧ There n B a ∧ (B (a - 1).toNat).refs ≠ (among n B a : Int))) ∨
  (e = .returned (.int .i64 0) ∧ (Right n B ∧ There n B a ∧ (B (a - 1).toNat).refs ≠ (among n B a : Int)) ∧ ∃ C, OwnPtr w' p g n C ∧ Right n C ∧ Fell n B C [a])

set_option maxHeartbeats 2000000 in
set_option maxRecDepth 100000 in
theorem drop_any (p : Addr) (g n : Nat) (B : Nat → Blk) (a : Int) (w : World) (h : OwnPtr w p g n B) :
    Calls Tryz.prog 191 #[.pointer (some p), .int .i64 a] w fun e w' => Dropped e w p g n B a w' ∧ Out g w w' := by
  have hg0 : g < w.heap.size := h.own.lt
  go_enter Tryz.func191, Tryz.ntmps191
  go_wp2_with fail
  refine (checkThere_any p _ n n B a w h.ptr).mono ?_
  rintro e w1 ⟨⟨e', rfl, he⟩, hb⟩
  replace h := h.below hb
  replace he := hid he
  replace h := hid h
  by_cases h0 : e' = 0
  · have h0' : (e' == 0) = true := by simp [h0]
    obtain ⟨hR, ht⟩ := he.out.1 h0
    obtain ⟨i, rfl⟩ : ∃ i : Nat, a = (i : Int) + 1 := ⟨(a - 1).toNat, by have := ht.1; omega⟩
    have ei : ((i : Int) + 1 - 1).toNat = i := by omega
    have hi : i < n := by have := ht.2.1; omega
    have hn := hR.small
    have s1 := h.out.cell
    have hp := h.out.lt
    obtain ⟨ka, kn, kc, ba, bn, bc, hbk⟩ := h.out.own.cell hi
    have c0 := hbk.c0
    replace hR := hid hR
    replace ht := hid ht
    clear hbk
    generalize hrf : (B i).refs = rf at *
    replace hrf := hid hrf
    go_wp2_with fail
    have hiI : (i : Int) < (n : Int) := by omega
    have hiI0 : (0 : Int) ≤ (i : Int) := by omega
    have hiI1 : IntKind.i64.wrap (i : Int) = i := by rw [IntKind.wrap_i64]; omega
    have hiI2 : IntKind.i64.wrap ((i : Int) + 1 - 1) = i := by rw [IntKind.wrap_i64]; omega
    go_cut [24] from 12 (fun t wc => t = .bool (rf == ((among n B ((i : Int) + 1) : Nat) : Int)) ∧ Below w1.heap.size w1 wc)
    case first =>
      go_region_with (first
        | (go_at_call 121; refine (at_own p g n n i _ hn ?_ hi).mono ?_; exact s1; rintro e w' ⟨rfl, rfl⟩)
        | (go_at_call 89; refine (amongKids_any p (some ⟨g, 0, none⟩) n n B _ hn ?_ ?_ ?_ ?_).mono ?_; exact hp; exact s1; exact h.out.own.store.below (below_drew _ _); exact hR.out.one; rintro e w2 ⟨rfl, hrow, hb2⟩; have q1 := (hb2.cell (p := p) hp).trans s1; have q2 := (hb2.cell (p := ⟨g, i * 4, none⟩) h.out.own.lt).trans c0; have hrc : w2.cell? ⟨w1.heap.size, i, none⟩ = some (.int .i64 ((among n B ((i : Int) + 1) : Nat) : Int)) := hrow.cell hi; replace hrow := hid hrow; replace hb2 : Hid (Below w1.heap.size w1 w2) := hid ((below_drew _ _).trans hb2)))
      all_goals (go_wp2_with fail; go_meet; exact ⟨rfl, hb2.out⟩)
    case rest =>
      obtain ⟨rfl, hb2⟩ := hcut
      replace h := h.out.below hb2
      replace hb := Below.tr hb hb2
      clear hb2 s1 c0 hp hiI hiI0 hiI1 hiI2
      generalize ham : ((among n B ((i : Int) + 1) : Nat) : Int) = am at *
      replace ham := hid ham
      replace h := hid h
      by_cases heq : rf = am
      · have heq' : (rf == am) = true := by simp [heq]
        go_wp2_with fail
        go_ret
        exact ⟨.inl ⟨7, rfl, by omega, fun f => f.2.2 (by rw [ei, hrf.out, ham.out, heq])⟩, Out.of_below hb⟩
      · have heq' : (rf == am) = false := by simp [heq]
        have hT : RightT n B [(i : Int) + 1] := right_held hR.out (by omega) (by omega) (by rw [ei, hrf.out, ham.out]; exact heq)
        replace hT := hid hT
        go_wp2_with fail
        have b3 := below_alloc wc (.cells #[.int .i64 ((i : Int) + 1)] 3)
        have k3 := cellsAt_alloc wc #[.int .i64 ((i : Int) + 1)] 3
        have hgl : g ≠ wc.heap.size := Nat.ne_of_lt h.out.own.lt
        have h3 := h.out.below b3
        replace hb := Below.tr hb b3
        generalize wc.alloc (.cells #[.int .i64 ((i : Int) + 1)] 3) = w3 at *
        have hN : NumsAt (fun b => b ≠ g) .i64 w3 (some ⟨wc.heap.size, 0, none⟩) 1 [(i : Int) + 1] := by
          refine ⟨rfl, fun x hx => ?_, fun _ => ⟨_, _, rfl, k3.lt, fun e => hgl e.symm, fun j hj => ?_⟩⟩
          · rw [List.mem_singleton.1 hx]; exact WalkArith.wf_i64 (by omega)
          · obtain rfl : j = 0 := by omega
            rw [Nat.zero_add, k3.cell 0]
            rfl
        refine (letGo_any p g n B (some ⟨wc.heap.size, 0, none⟩) 1 1 [(i : Int) + 1] w3 h3 hN (by omega) hT.out).mono ?_
        rintro e w4 ⟨rfl, hk4, C, h4, hR4, hF4⟩
        replace h4 := hid h4
        replace hR4 := hid hR4
        replace hF4 := hid hF4
        replace hb := hid ((Out.of_below (g := g) hb).trans hk4)
        clear hk4 h3 hN k3
        go_wp2_with fail
        go_ret
        exact ⟨.inr ⟨rfl, ⟨hR.out, ht.out, by rw [ei, hrf.out, ham.out]; exact heq⟩, C, h4.out, hR4.out, hF4.out⟩, hb.out⟩
  · have h0' : (e' == 0) = false := by simp [h0]
    go_wp2_with fail
    go_ret
    exact ⟨.inl ⟨e', rfl, h0, fun f => h0 (he.out.2 ⟨f.1, f.2.1⟩)⟩, Out.of_below hb⟩

end Go.Proofs.YtnmcgmpmcliinaaGreat

namespace Go.Proofs.YtnmcgmpmcliinaaGreat
open Go.RowKit

theorem Form.few2 {n : Nat} {B : Nat → Blk} {b : Blk} (h : Form n B b) : b.bytes.length ≤ 4 := by
  rcases h with ⟨_, _, _, h⟩ | ⟨_, ⟨_, _, h⟩ | ⟨_, _, h, _⟩⟩
  · simp [h]
  · omega
  · simp [h]

theorem cellsAt_alloc3 (w : World) (o q : Obj) (cs : Array Value) (t : TypeId) : CellsAt (((w.alloc o).alloc q).alloc (.cells cs t)) (w.heap.size + 2) cs t := by
  have := cellsAt_alloc2 (w.alloc o) q cs t
  simpa using this

/-- what Drop refuses not -/
def Droppable (n : Nat) (B : Nat → Blk) (a : Int) : Prop := Right n B ∧ There n B a ∧ (B (a - 1).toNat).refs ≠ (among n B a : Int)

/-- what store.Drop answers -/
def RetDrop (base : Nat) (e : Ending) (w : World) (n : Nat) (B : Nat → Blk) (a : Int) : Prop :=
  (∃ e', e = .returned (.tuple #[.agg #[.slice none 0 0], .int .i64 e']) ∧ e' ≠ 0 ∧ ¬ Droppable n B a) ∨ (Droppable n B a ∧ ∃ C, RetS base e w n C ∧ Right n C ∧ Fell n B C [a])

end Go.Proofs.YtnmcgmpmcliinaaGreat

namespace Go.Proofs.YtnmcgmpmcliinaaGreat
open Go.RowKit

theorem isFree_any (r lv : Int) (ka : Option Addr) (kn kc : Nat) (ba : Option Addr) (bn bc : Nat) (w : World) :
    Calls Tryz.prog 206 #[.agg #[.int .i64 r, .int .i64 lv, .slice ka kn kc, .slice ba bn bc]] w fun e w' => e = .returned (.bool (r == 0)) ∧ Below w.heap.size w w' := by
  go_enter Tryz.func206, Tryz.ntmps206
  go_wp2_with fail
  go_ret
  exact ⟨rfl, below_alloc _ _⟩

/-- it answers the first place that is free, or none -/
def RetIx (e : Ending) (n : Nat) (B : Nat → Blk) : Prop :=
  (e = .returned (.int .i64 (-1)) ∧ ∀ k, k < n → (B k).refs ≠ 0) ∨ (∃ i : Nat, i < n ∧ e = .returned (.int .i64 i) ∧ (B i).refs = 0 ∧ ∀ k, k < i → (B k).refs ≠ 0)

set_option maxHeartbeats 1000000 in
set_option maxRecDepth 100000 in
theorem indexFree_any (a : Option Addr) (n c : Nat) (B : Nat → Blk) (w : World) (hn : n ≤ 400) (h : StoreAt w a n B) :
    Calls Tryz.prog 72 #[.slice a n c, .func (.func 206) #[] #[]] w fun e w' => RetIx e n B ∧ Below w.heap.size w w' := by
  go_enter Tryz.func72, Tryz.ntmps72
  go_wp2_with fail
  go_loopw [8] (fun v wr => ∃ i : Nat, i ≤ n ∧ v = .int .i64 i ∧ (∀ k, k < i → (B k).refs ≠ 0) ∧ Below w.heap.size w wr) (fun v _ => n - (Go.RowKit.intOf v).toNat)
  case atStart => exact ⟨0, Nat.zero_le _, rfl, fun k hk => absurd hk (by omega), Below.refl _ _⟩
  case round =>
    obtain ⟨i, hin, rfl, hno, hbel⟩ := hrel
    replace hno := hid hno
    by_cases hlt : i < n
    · obtain ⟨b, off, rfl, hb, hB⟩ := (h.below hbel) (by omega)
      obtain ⟨ka, kn, kc, ba, bn, bc, hblk⟩ := hB i hlt
      have c0 := hblk.c0
      have c1 := hblk.c1
      have c2 := hblk.c2
      have c3 := hblk.c3
      clear hB hblk
      generalize hrf : (B i).refs = rf at *
      replace hrf := hid hrf
      generalize (B i).level = lv at *
      go_wp2_with fail
      refine (isFree_any rf lv ka kn kc ba bn bc wr).mono ?_
      rintro e w1 ⟨rfl, b1⟩
      replace hbel := Below.tr hbel b1
      by_cases h0 : rf = 0
      · have h0' : (rf == 0) = true := by simp [h0]
        go_wp2_with fail
        go_ret
        exact ⟨.inr ⟨i, hlt, rfl, by rw [hrf.out]; exact h0, hno.out⟩, hbel⟩
      · have h0' : (rf == 0) = false := by simp [h0]
        go_wp2_with fail
        go_roundw
        case rel =>
          refine ⟨i + 1, by omega, by go_num, fun k hk => ?_, hbel⟩
          rcases Nat.lt_or_ge k i with h' | h'
          · exact hno.out k h'
          · obtain rfl : k = i := by omega
            rw [hrf.out]; exact h0
        case measure => simp [Go.RowKit.intOf]; omega
    · obtain rfl : i = n := by omega
      go_wp2_with fail
      go_ret
      exact ⟨.inl ⟨rfl, hno.out⟩, hbel⟩

/-- what Make refuses not -/
def Makeable (n : Nat) (B : Nat → Blk) (K : Blk) : Prop := Right n B ∧ Form n B { K with refs := 1 } ∧ ∃ i, i < n ∧ (B i).refs = 0

/-- the store with K at place i, and its kids held once more -/
def made (B : Nat → Blk) (K : Blk) (i : Nat) : Nat → Blk := fun k => if k = i then { K with refs := 1 } else { B k with refs := (B k).refs + (K.kids.count ((k : Int) + 1) : Int) }

/-- when j of the kids are held once more -/
def bump (B : Nat → Blk) (ks : List Int) (j : Nat) : Nat → Blk := fun k => { B k with refs := (B k).refs + ((ks.take j).count ((k : Int) + 1) : Int) }
theorem bump_zero (B : Nat → Blk) (ks : List Int) : bump B ks 0 = B := by
  funext k; unfold bump; simp
theorem bump_skip (B : Nat → Blk) (ks : List Int) (j : Nat) (hj : j < ks.length) (h : ks.getD j 0 = 0) : bump B ks (j + 1) = bump B ks j := by
  funext k; unfold bump
  rw [take_snoc hj, List.count_append, h, List.count_cons_of_ne (by omega)]
  simp
theorem bump_next (B : Nat → Blk) (ks : List Int) (j m : Nat) (hj : j < ks.length) (h : ks.getD j 0 = (m : Int) + 1) : bump B ks (j + 1) = upd (bump B ks j) m { bump B ks j m with refs := (bump B ks j m).refs + 1 } := by
  funext k
  unfold upd
  by_cases e : k = m
  · subst e
    rw [if_pos rfl]
    unfold bump
    rw [take_snoc hj, List.count_append, h]
    simp; omega
  · rw [if_neg e]
    unfold bump
    rw [take_snoc hj, List.count_append, h, List.count_cons_of_ne (by omega)]
    simp
theorem bump_bd {n : Nat} (B : Nat → Blk) (ks : List Int) (j : Nat) (h : ∀ k, k < n → 0 ≤ (B k).refs ∧ (B k).refs ≤ 1000000) : ∀ k, k < n → 0 ≤ (bump B ks j k).refs ∧ (bump B ks j k).refs ≤ 1000000 + (ks.length : Int) := by
  intro k hk
  have h1 := h k hk
  have h2 : (ks.take j).count ((k : Int) + 1) ≤ (ks.take j).length := List.count_le_length
  simp at h2
  show 0 ≤ (B k).refs + ((ks.take j).count ((k : Int) + 1) : Int) ∧ (B k).refs + ((ks.take j).count ((k : Int) + 1) : Int) ≤ _
  omega
theorem bump_made (B : Nat → Blk) (K : Blk) (i n : Nat) (hi : i < n) (h0 : (B i).refs = 0) (hF : Form n B { K with refs := 1 }) (k : Nat) : bump (upd B i { K with refs := 1 }) K.kids K.kids.length k = made B K i k := by
  unfold bump made
  rw [List.take_length]
  by_cases e : k = i
  · subst e
    rw [upd_same, if_pos rfl]
    have : K.kids.count ((k : Int) + 1) = 0 := by
      apply List.count_eq_zero.2
      intro hm
      rcases hF.kids _ hm with h | ⟨⟨_, _, h⟩, _⟩
      · omega
      · rw [show ((k : Int) + 1 - 1).toNat = k by omega] at h; exact h h0
    rw [this]; simp
  · rw [upd_other _ _ _ _ e, if_neg e]

theorem put_own {w4 w5 : World} {p : Addr} {g n i : Nat} {B : Nat → Blk} (h : OwnPtr w4 p g n B) (b5 : Below w4.heap.size w4 w5) (hi : i < n) (K : Blk) {ka : Option Addr} {kn kc : Nat} {ba : Option Addr} {bn bc : Nat}
    (hK : NumsAt (fun b => w4.heap.size ≤ b) .i64 w5 ka kn K.kids) (hB : NumsAt (fun b => w4.heap.size ≤ b) .u8 w5 ba bn K.bytes) (hr : -9223372036854775808 ≤ K.refs ∧ K.refs ≤ 9223372036854775807) (hl : -9223372036854775808 ≤ K.level ∧ K.level ≤ 9223372036854775807) (hc : kn ≤ kc ∧ bn ≤ bc) :
    OwnPtr (put4 w5 g (i * 4) (.int .i64 K.refs) (.int .i64 K.level) (.slice ka kn kc) (.slice ba bn bc)) p g n (upd B i K) := by
  have hlt := h.own.lt
  have h5 := h.below b5
  exact h5.kept (kept_put4 _ _ _ _ _ _ _) (h5.own.put hi K ka kn kc ba bn bc (hK.weaken fun b _ h => by omega) (hB.weaken fun b _ h => by omega) hr hl hc)
theorem put_cells {w5 : World} {g o q : Nat} {cs : Array Value} {t : TypeId} {v0 v1 v2 v3 : Value} (k : CellsAt w5 q cs t) (hq : q ≠ g) : CellsAt (put4 w5 g o v0 v1 v2 v3) q cs t := by
  unfold CellsAt
  rw [(kept_put4 w5 g o v0 v1 v2 v3).block q hq]
  exact k
theorem put_out {w w4 w5 : World} {g o : Nat} {v0 v1 v2 v3 : Value} (b1 : Below w.heap.size w w4) (b5 : Below w4.heap.size w4 w5) (_ : w.heap.size < w4.heap.size) : Out g w (put4 w5 g o v0 v1 v2 v3) :=
  (Out.of_below (Below.tr b1 b5)).trans (Out.of_kept (kept_put4 w5 g o v0 v1 v2 v3))

/-- why Make makes none: where all is right none is free -/
def NotMade (n : Nat) (B : Nat → Blk) (K : Blk) (e' : Int) : Prop := ¬ Makeable n B K ∧ (Right n B → Form n B { K with refs := 1 } → e' = 8)

/-- what Make in one's own store answers -/
def Made (e : Ending) (p : Addr) (g n : Nat) (B : Nat → Blk) (K : Blk) (w : World) : Prop :=
  (∃ e' : Int, e = .returned (.tuple #[.int .i64 0, .int .i64 e']) ∧ e' ≠ 0 ∧ NotMade n B K e') ∨
  (∃ i : Nat, i < n ∧ e = .returned (.tuple #[.int .i64 ((i : Int) + 1), .int .i64 0]) ∧ Makeable n B K ∧ (B i).refs = 0 ∧ (∀ k, k < i → (B k).refs ≠ 0) ∧ OwnPtr w p g n (made B K i))

set_option maxHeartbeats 2000000 in
set_option maxRecDepth 100000 in
theorem make_any (p : Addr) (g n : Nat) (B : Nat → Blk) (K : Blk) (ka : Option Addr) (kn kc : Nat) (ba : Option Addr) (bn bc : Nat) (Q : Nat → Prop) (w : World) (h : OwnPtr w p g n B)
    (hQ : ∀ b, Q b → b ≠ g) (hk : NumsAt Q .i64 w ka kn K.kids) (hb : NumsAt Q .u8 w ba bn K.bytes) (hl : -9223372036854775808 ≤ K.level ∧ K.level ≤ 9223372036854775807) (hcc : kn ≤ kc ∧ bn ≤ bc) :
    Calls Tryz.prog 205 #[.pointer (some p), .agg #[.int .i64 K.refs, .int .i64 K.level, .slice ka kn kc, .slice ba bn bc]] w fun e w' => Made e p g n B K w' ∧ Out g w w' := by
  have hg0 : g < w.heap.size := h.own.lt
  have b0 := below_alloc w (.cells #[.int .i64 K.refs, .int .i64 K.level, .slice ka kn kc, .slice ba bn bc] 93)
  have k0 := cellsAt_alloc w #[.int .i64 K.refs, .int .i64 K.level, .slice ka kn kc, .slice ba bn bc] 93
  replace k0 := hid k0
  replace hk := hid hk
  replace hb := hid hb
  replace h := hid h
  replace hQ := hid hQ
  go_enter Tryz.func205, Tryz.ntmps205
  go_wp2_with fail
  generalize w.alloc (.cells #[.int .i64 K.refs, .int .i64 K.level, .slice ka kn kc, .slice ba bn bc] 93) = w0 at *
  refine (check_any p _ n n B w0 (h.out.below b0).ptr).mono ?_
  rintro e w1 ⟨⟨e', rfl, he⟩, b1⟩
  replace k0 := k0.out.below b1
  replace b1 := Below.tr b0 b1
  clear b0
  replace he := hid he
  by_cases h0 : e' = 0
  · have h0' : (e' == 0) = true := by simp [h0]
    have hR := he.out.1 h0
    have hn := hR.small
    have c0 := k0.cell 0
    have f0 := k0.frozen 0
    simp at c0
    replace hR := hid hR
    replace k0 := hid k0
    go_wp2_with fail
    clear c0 f0
    have kk := Kept.setCell (g := w.heap.size) (Kept.refl _ w1) (p := ⟨w.heap.size, 0, none⟩) rfl (.int .i64 1)
    have k1 := k0.out.set 0 (.int .i64 1)
    simp only [List.setIfInBounds_toArray, List.set_cons_zero] at k1
    replace b1 := b1.trans (kk.below (Nat.le_refl _))
    clear kk k0
    generalize w1.setCell ⟨w.heap.size, 0, none⟩ (.int .i64 1) = w2 at *
    have hP2 := h.out.below b1
    refine (checkBlock_any p _ n n B w.heap.size 0 Q { K with refs := 1 } ka kn kc ba bn bc w2 hn hP2.cell hP2.own.store ⟨k1.cell 0, k1.cell 1, k1.cell 2, k1.cell 3, hk.out.below b1, hb.out.below b1, by simp, hl, hcc⟩).mono ?_
    rintro e w3 ⟨⟨e2, rfl, he2⟩, m, rfl⟩
    replace b1 := b1.trans (below_drewN w.heap.size w2 m)
    replace k1 := k1.below (below_drewN _ w2 m)
    clear hP2
    generalize w2.drewN m = w3 at *
    replace he2 := hid he2
    by_cases h2 : e2 = 0
    · have h2' : (e2 == 0) = true := by simp [h2]
      have hF := he2.out.1 h2
      have h4 : kn ≤ 4 ∧ bn ≤ 4 := by rw [← hk.out.1, ← hb.out.1]; exact ⟨hF.few, hF.few2⟩
      have hP3 := h.out.below b1
      have s3 := hP3.cell
      replace hF := hid hF
      replace k1 := hid k1
      go_wp2_with fail
      refine (indexFree_any _ n n B w3 hn hP3.own.store).mono ?_
      rintro e w4 ⟨hix, b4⟩
      replace k1 := hid (k1.out.below b4)
      replace b1 := Below.tr b1 b4
      clear b4 hP3 s3
      rcases hix with ⟨rfl, hno⟩ | ⟨i, hi, rfl, hi0, hmin⟩
      · replace hno := hid hno
        go_wp2_with fail
        go_ret2
        exact ⟨.inl ⟨8, rfl, by omega, ⟨fun f => by obtain ⟨_, _, k, hk', hk0⟩ := f; exact hno.out k hk' hk0, fun _ _ => rfl⟩⟩, Out.of_below b1⟩
      · replace hi0 := hid hi0
        replace hmin := hid hmin
        have hP4 := h.out.below b1
        have s4 := hP4.cell
        have q0 := k1.out.cell 0
        have q1 := k1.out.cell 1
        have q2 := k1.out.cell 2
        have q3 := k1.out.cell 3
        simp at q0 q1 q2 q3
        have hlt4 := k1.out.lt
        obtain ⟨xa, xn, xc, ya, yn, yc, hx⟩ := hP4.own.cell hi
        have hiI : (i : Int) < (n : Int) := by omega
        have hiI0 : (0 : Int) ≤ (i : Int) := by omega
        replace hP4 := hid hP4
        replace hx := hid hx
        go_upto_region 11 with fail
        go_cut [] from 29 (fun wc => OwnPtr wc p g n (upd B i { K with refs := 1 }) ∧ CellsAt wc w.heap.size #[.int .i64 1, .int .i64 K.level, .slice ka kn kc, .slice ba bn bc] 93 ∧ Out g w wc)
        case first =>
          go_region_with (go_at_call 86; refine (copyBlock_any { K with refs := 1 } ka kn kc ba bn bc Q _ ?_ ?_ h4).mono ?_; exact (hk.out.below b1).below (below_drew _ _); exact (hb.out.below b1).below (below_drew _ _); rintro e w5 ⟨⟨ka', kn', kc', ba', bn', bc', rfl, hK', hB', hc1', hc2'⟩, b5⟩; replace b5 : Below w4.heap.size w4 w5 := (below_drew _ _).trans b5; have s5 := (b5.cell (p := p) hP4.out.lt).trans s4; have hx5 := hx.out.below b5; have d0 := hx5.c0; have d1 := hx5.c1; have d2 := hx5.c2; have d3 := hx5.c3; have hO5 := hP4.out.own.below b5; have e0 := hO5.free (i * 4) (by omega); have e1 := hO5.free (i * 4 + 1) (by omega); have e2 := hO5.free (i * 4 + 2) (by omega); have e3 := hO5.free (i * 4 + 3) (by omega); have k5 := hid (k1.out.below b5); replace hK' := hid hK'; replace hB' := hid hB'; replace b5 := hid b5; clear hO5 hx5)
          all_goals (go_wp2_with fail; go_meet; exact ⟨put_own hP4.out b5.out hi { K with refs := 1 } hK'.out hB'.out (by simp) hl ⟨hc1', hc2'⟩, put_cells k5.out (by omega), put_out b1 b5.out hlt4⟩)
        case rest =>
          obtain ⟨hP, hk5, hout⟩ := hcut
          have q5 := hk5.cell 2
          simp at q5
          have hkl := hid hk.out.1
          replace hP := hid hP
          clear s4 q0 q1 q2 q3 hiI hiI0 hP4 hx k1 hk5
          go_wp2_with fail
          go_loopw [40] (fun v wr => ∃ j : Nat, j ≤ kn ∧ v = .int .i64 j ∧ OwnPtr wr p g n (bump (upd B i { K with refs := 1 }) K.kids j) ∧ Out g w wr) (fun v _ => kn - (Go.RowKit.intOf v).toNat)
          case atStart => exact ⟨0, Nat.zero_le _, rfl, by rw [bump_zero]; exact hP.out, hout⟩
          case round =>
            clear hP hout q5
            obtain ⟨j, hjn, rfl, hP, hout⟩ := hrel
            by_cases hlt : j < kn
            · obtain ⟨kb, ko, rfl, hkb, hqb, hc⟩ := hk.out.2.2 (by omega)
              have hck : wr.cell? ⟨kb, ko + j, none⟩ = some (.int .i64 (K.kids.getD j 0)) := (hout.cell (p := ⟨kb, ko + j, none⟩) hkb (hQ.out kb hqb)).trans (hc j hlt)
              have hjl : j < K.kids.length := by rw [hkl.out]; exact hlt
              have hkid := hF.out.kids _ (hk.out.getD hlt)
              have I1 := hid (bump_skip (upd B i { K with refs := 1 }) K.kids j hjl)
              have I2 := hid (fun m => bump_next (upd B i { K with refs := 1 }) K.kids j m hjl)
              have I3 := hid (bump_bd (n := n) (upd B i { K with refs := 1 }) K.kids j (by
                intro k hk'
                unfold upd
                split
                · simp
                · have := (hR.out.one k hk').bounds; omega))
              clear hc
              simp only at hkid
              generalize K.kids.getD j 0 = x at *
              by_cases hx0 : x = 0
              · have hx0' : (x == 0) = true := by simp [hx0]
                have hP' := hid (I1.out hx0 ▸ hP)
                replace hP := hid hP
                go_wp2_with fail
                go_roundw
                case rel => exact ⟨j + 1, by omega, by go_num, hP'.out, hout⟩
                case measure => simp [Go.RowKit.intOf]; omega
              · have hx0' : (x == 0) = false := by simp [hx0]
                obtain ⟨m, rfl, hm⟩ := kid_ix hkid hx0
                obtain ⟨xa, xn, xc, ya, yn, yc, hx⟩ := hP.own.cell hm
                have c0 := hx.c0
                have f0 := hP.own.free (m * 4) (by omega)
                have hbd := I3.out m hm
                have sp := hP.cell
                have hkl4 : K.kids.length ≤ 4 := by rw [hkl.out]; exact h4.1
                have hP' := hid (hP.kept (Kept.setCell (g := g) (Kept.refl _ wr) (p := ⟨g, m * 4, none⟩) rfl _) (hP.own.refs hm ((bump (upd B i { K with refs := 1 }) K.kids j m).refs + 1) (by omega)))
                rw [← I2.out m rfl] at hP'
                have ho' := hid (hout.trans (Out.of_kept (Kept.setCell (g := g) (Kept.refl _ wr) (p := ⟨g, m * 4, none⟩) rfl (.int .i64 ((bump (upd B i { K with refs := 1 }) K.kids j m).refs + 1)))))
                replace hP := hid hP
                clear hx I1 I2 I3 hkid
                generalize (bump (upd B i { K with refs := 1 }) K.kids j m).refs = rf at *
                go_wp2_with fail
                refine (at_own p g n n m _ hn sp hm).mono ?_
                rintro e w6 ⟨rfl, rfl⟩
                go_wp2_with fail
                go_roundw
                case rel => exact ⟨j + 1, by omega, by go_num, hP'.out, ho'.out⟩
                case measure => simp [Go.RowKit.intOf]; omega
            · obtain rfl : j = kn := by omega
              have hP' : Hid (OwnPtr wr p g n (made B K i)) := hid ⟨hP.lt, hP.ne, hP.cell, hP.own.congr (fun k _ => by rw [← hkl.out]; exact bump_made B K i n hi hi0.out hF.out k)⟩
              clear hP
              go_wp2_with fail
              go_ret2
              exact ⟨.inr ⟨i, hi, rfl, ⟨hR.out, hF.out, i, hi, hi0.out⟩, hi0.out, hmin.out, hP'.out⟩, hout⟩
    · have h2' : (e2 == 0) = false := by simp [h2]
      go_wp2_with fail
      go_ret2
      exact ⟨.inl ⟨e2, rfl, h2, ⟨fun f => h2 (he2.out.2 f.2.1), fun _ f => absurd (he2.out.2 f) h2⟩⟩, Out.of_below b1⟩
  · have h0' : (e' == 0) = false := by simp [h0]
    go_wp2_with fail
    go_ret2
    exact ⟨.inl ⟨e', rfl, h0, ⟨fun f => h0 (he.out.2 f.1), fun f => absurd (he.out.2 f) h0⟩⟩, Out.of_below b1⟩

end Go.Proofs.YtnmcgmpmcliinaaGreat

namespace Go.Proofs.YtnmcgmpmcliinaaGreat
open Go.RowKit

/-- what the closure of store.Make finds: the block, the place for the address -/
structure MakeEnv (w : World) (lim bb ab : Nat) (K : Blk) (ka : Option Addr) (kn kc : Nat) (ba : Option Addr) (bn bc : Nat) : Prop where
  cb : CellsAt w bb #[.int .i64 K.refs, .int .i64 K.level, .slice ka kn kc, .slice ba bn bc] 93
  ca : CellsAt w ab #[.int .i64 0] 3
  kids : NumsAt (fun b => b < lim) .i64 w ka kn K.kids
  bytes : NumsAt (fun b => b < lim) .u8 w ba bn K.bytes
  level : -9223372036854775808 ≤ K.level ∧ K.level ≤ 9223372036854775807
  caps : kn ≤ kc ∧ bn ≤ bc
  ne : bb ≠ ab
  la : ab < lim
  lb : bb < lim
theorem MakeEnv.below {w w' : World} {lim bb ab : Nat} {K : Blk} {ka : Option Addr} {kn kc : Nat} {ba : Option Addr} {bn bc : Nat} (h : MakeEnv w lim bb ab K ka kn kc ba bn bc) (b : Below w.heap.size w w') : MakeEnv w' lim bb ab K ka kn kc ba bn bc :=
  ⟨h.cb.below b, h.ca.below b, h.kids.below b, h.bytes.below b, h.level, h.caps, h.ne, h.la, h.lb⟩

/-- what was there but two blocks is as it was -/
structure Out2 (g h : Nat) (w w' : World) : Prop where
  os : w'.os = w.os
  tape : w'.tape = w.tape
  output : w'.output = w.output
  size : w.heap.size ≤ w'.heap.size
  block : ∀ k, k < w.heap.size → k ≠ g → k ≠ h → w'.heap[k]? = w.heap[k]?
theorem Out2.of {g h : Nat} {a b c : World} (x : Out g a b) (y : Kept h b c) : Out2 g h a c :=
  ⟨y.os.trans x.os, y.tape.trans x.tape, y.output.trans x.output, by rw [y.size]; exact x.size, fun k hk hg hh => (y.block k hh).trans (x.block k hk hg)⟩
theorem Out.setNew {g : Nat} {w w' : World} (h : Out g w w') {a : Addr} (ha : w.heap.size ≤ a.block) {v : Value} : Out g w (w'.setCell a v) :=
  ⟨h.os, h.tape, h.output, by simpa using h.size, fun k hk hg => by rw [Below.heap_setCell _ _ _ _ (by omega)]; exact h.block k hk hg⟩

/-- what the closure of store.Make answers, and leaves -/
def DidMake (e : Ending) (p : Addr) (g n : Nat) (B : Nat → Blk) (K : Blk) (ab : Nat) (w : World) : Prop :=
  (∃ e' : Int, e = .returned (.int .i64 e') ∧ e' ≠ 0 ∧ ¬ Makeable n B K ∧ CellsAt w ab #[.int .i64 0] 3) ∨
  (∃ i : Nat, i < n ∧ e = .returned (.int .i64 0) ∧ Makeable n B K ∧ (B i).refs = 0 ∧ (∀ k, k < i → (B k).refs ≠ 0) ∧ OwnPtr w p g n (made B K i) ∧ CellsAt w ab #[.int .i64 ((i : Int) + 1)] 3)

/-- what store.change answers to the closure of store.Make -/
def RetMake (base : Nat) (e : Ending) (w : World) (n : Nat) (B : Nat → Blk) (K : Blk) (ab : Nat) : Prop :=
  (∃ e', e = .returned (.tuple #[.agg #[.slice none 0 0], .int .i64 e']) ∧ e' ≠ 0 ∧ ¬ Makeable n B K ∧ CellsAt w ab #[.int .i64 0] 3) ∨
  (∃ i : Nat, i < n ∧ Makeable n B K ∧ (B i).refs = 0 ∧ (∀ k, k < i → (B k).refs ≠ 0) ∧ RetS base e w n (made B K i) ∧ CellsAt w ab #[.int .i64 ((i : Int) + 1)] 3)

theorem results_cell_tmps {fn : Func} {p u v : Tmp} {ty : TypeId} (h : fn.results = #[.cell p ty, .tmp u, .tmp v]) (tmps : Array Value) (P : Program) (w : World) :
    (results fn tmps).run P w =
      ((asAddr (tmps.getD p undef)).run P w).andThen fun a w₁ => ((loadVar ty a).run P w₁).andThen fun x w₂ => .ok (.tuple #[x, tmps.getD u undef, tmps.getD v undef]) w₂ := by
  simp only [results, h]
  simp [Sem.run_bind, Result.andThen]

/-- what store.Make answers -/
def RetMade (base : Nat) (e : Ending) (w : World) (n : Nat) (B : Nat → Blk) (K : Blk) : Prop :=
  (∃ e', e = .returned (.tuple #[.agg #[.slice none 0 0], .int .i64 0, .int .i64 e']) ∧ e' ≠ 0 ∧ ¬ Makeable n B K) ∨
  (∃ i : Nat, i < n ∧ Makeable n B K ∧ (B i).refs = 0 ∧ (∀ k, k < i → (B k).refs ≠ 0) ∧ ∃ g c, e = .returned (.tuple #[.agg #[.slice (some ⟨g, 0, none⟩) n c], .int .i64 ((i : Int) + 1), .int .i64 0]) ∧ base ≤ g ∧ g < w.heap.size ∧ Blocks (fun b => base ≤ b) w g 0 n (made B K i))

theorem cellsAt_alloc4 (w : World) (o q r : Obj) (cs : Array Value) (t : TypeId) : CellsAt ((((w.alloc o).alloc q).alloc r).alloc (.cells cs t)) (w.heap.size + 3) cs t := by
  have := cellsAt_alloc3 (w.alloc o) q r cs t
  simpa [Nat.add_assoc, Nat.add_comm, Nat.add_left_comm] using this

end Go.Proofs.YtnmcgmpmcliinaaGreat
