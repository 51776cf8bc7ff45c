/-
  Contracts of blocks.Drop and of the function in it that calls itself. Nothing here is trusted.
-/
import Derived.Test.YtpccgjjclhgcnadBlocks4
set_option linter.unusedVariables false
namespace Go.Proofs.Ytpccgjjclhgcnad
open Go.RowKit

theorem at_own (p : Addr) (g n c i : Nat) (w : World) (hn : n ≤ 400) (hs : w.cell? p = some (.slice (some ⟨g, 0, none⟩) n c)) (hi : i < n) :
    Calls Try.prog 36 #[.pointer (some p), .int .i64 ((i : Int) + 1)] w fun e w' => e = .returned (.pointer (some ⟨g, i * 4, none⟩)) ∧ w' = w := by
  have := at_ptr p g 0 n c i w hn hs hi
  rwa [Nat.zero_add] at this

/-- what the closure finds: the pointer to the store, itself -/
structure Env (w : World) (p : Addr) (sb lb g n : Nat) : Prop where
  s : w.cell? ⟨sb, 0, none⟩ = some (.pointer (some p))
  l : w.cell? ⟨lb, 0, none⟩ = some (.func (.func 54) #[] #[.pointer (some ⟨sb, 0, none⟩), .pointer (some ⟨lb, 0, none⟩)])
  q : w.cell? p = some (.slice (some ⟨g, 0, none⟩) n n)
  ns : sb ≠ g
  nl : lb ≠ g
  np : p.block ≠ g
theorem Env.kept {w w' : World} {p : Addr} {sb lb g n : Nat} (h : Env w p sb lb g n) (k : Kept g w w') : Env w' p sb lb g n :=
  ⟨(k.cell (p := ⟨sb, 0, none⟩) h.ns).trans h.s, (k.cell (p := ⟨lb, 0, none⟩) h.nl).trans h.l, (k.cell h.np).trans h.q, h.ns, h.nl, h.np⟩

theorem upd_upd (B : Nat → Blk) (i : Nat) (b c : Blk) : upd (upd B i b) i c = upd B i c := by
  funext j; unfold upd; split <;> rfl

theorem fell_zero {n : Nat} {B : Nat → Blk} (h : ∀ i, i < n → Form n B (B i)) : Fell n B B [0] := (fell_nil h).skip

/-- what the closure leaves -/
def Less (w : World) (g n : Nat) (B : Nat → Blk) (a : Int) (T : List Int) (w' : World) : Prop := Kept g w w' ∧ ∃ C, Own w' g n C ∧ RightT n C T ∧ Fell n B C [a]

set_option maxHeartbeats 2000000 in
set_option maxRecDepth 100000 in
theorem less_any (p : Addr) (sb lb g n : Nat) (hn : n ≤ 400) (f : Nat) : ∀ (B : Nat → Blk) (i : Nat) (T : List Int) (w : World), i < n → RightT n B (((i : Int) + 1) :: T) → (B i).level < f → Env w p sb lb g n → Own w g n B →
    Calls Try.prog 54 #[.int .i64 ((i : Int) + 1), .pointer (some ⟨sb, 0, none⟩), .pointer (some ⟨lb, 0, none⟩)] w fun e w' => e = .returned (.tuple #[]) ∧ Less w g n B ((i : Int) + 1) T w' := by
  induction f with
  | zero =>
    intro B i T w hi hR hl
    have := (hR.one i hi).bounds
    omega
  | succ f ih =>
    intro B i T w hi hR hl hE hO
    have ei : ((i : Int) + 1 - 1).toNat = i := by omega
    obtain ⟨ka, kn, kc, ba, bn, bc, hb⟩ := hO.cell hi
    have s1 := hE.s
    have s2 := hE.q
    have c0 := hb.c0
    have c1 := hb.c1
    have c2 := hb.c2
    have c3 := hb.c3
    have f0 := hO.free (i * 4) (by omega)
    have f1 := hO.free (i * 4 + 1) (by omega)
    have f2 := hO.free (i * 4 + 2) (by omega)
    have f3 := hO.free (i * 4 + 3) (by omega)
    have hbd := (hR.one i hi).bounds
    have hge : 1 ≤ (B i).refs := by have := (hR.there (List.mem_cons_self ..) (by omega)).2; rw [ei] at this; exact this
    by_cases hr : 1 < (B i).refs
    · have J : Hid (∀ w', w' = w.setCell ⟨g, i * 4, none⟩ (.int .i64 ((B i).refs - 1)) → Less w g n B ((i : Int) + 1) T w') := hid (by
        intro w' hw
        subst hw
        refine ⟨Kept.setCell (g := g) (Kept.refl _ _) (p := ⟨g, i * 4, none⟩) rfl _, _, hO.refs hi ((B i).refs - 1) (by omega), ?_, ?_⟩
        · have := step_more hR (by omega) (by omega) (by rw [ei]; exact hr); rwa [ei] at this
        · have := fell_more hR.one (a := (i : Int) + 1) (by omega) (by omega) (by rw [ei]; exact hr); rwa [ei] at this)
      clear hO hR hE hb ih
      generalize (B i).refs = r at *
      go_enter Try.func54, Try.ntmps54
      go_wp2_with fail
      refine (at_own p g n n i _ hn s2 hi).mono ?_
      rintro e w1 ⟨rfl, rfl⟩
      go_wp2_with fail
      exact bodyPost_ret (results_none rfl _ _ _) rfl ⟨rfl, J.out _ rfl⟩
    · have hr1 : (B i).refs = 1 := by omega
      obtain ⟨hR', hrr, ha0⟩ := step_free hR (by omega) (by omega) (by rw [ei]; exact hr)
      rw [ei] at hR'
      clear hrr
      have hO1 := (hO.refs hi 0 (by omega)).put hi Blk.zero none 0 0 none 0 0 (numsAt_nil _ _ _ _) (numsAt_nil _ _ _ _) (by simp [Blk.zero]) (by simp [Blk.zero]) (by omega)
      rw [upd_upd] at hO1
      have hkp : Kept g w (put4 (w.setCell ⟨g, i * 4, none⟩ (.int .i64 0)) g (i * 4) (.int .i64 0) (.int .i64 0) (.slice none 0 0) (.slice none 0 0)) := (Kept.setCell (g := g) (Kept.refl _ w) (p := ⟨g, i * 4, none⟩) rfl (.int .i64 0)).trans (kept_put4 _ _ _ _ _ _ _)
      have hlev : ∀ k : Nat, ((k : Int) + 1) ∈ (B i).kids → (B k).level < f := by
        intro k hk
        rcases (hR.one i hi).kids _ hk with h | ⟨_, h⟩
        · omega
        · rw [show ((k : Int) + 1 - 1).toNat = k by omega] at h; omega
      have hdone : ∀ C, Fell n (upd B i Blk.zero) C (B i).kids → Fell n B C [(i : Int) + 1] := by
        intro C hC
        exact fell_free hR.one (by omega) (by omega) (by rw [ei]; exact hr1) ha0 (by rw [ei]; exact hC)
      have hkids := hb.kids
      have hkn4 : kn ≤ 4 := by rw [← hb.kids.1]; exact (hR.one i hi).few
      have hr0 : (1 : Int) - 1 = 0 := rfl
      rw [hr1] at c0
      clear hb hR ha0 hl hbd hge hr hO
      generalize (B i).kids = ks at *
      generalize (B i).refs = rf at *
      generalize (B i).level = lv at *
      replace hO1 := hid hO1
      replace hkp := hid hkp
      replace hlev := hid hlev
      replace hdone := hid hdone
      replace hkids := hid hkids
      replace hR' := hid hR'
      replace ih := hid ih
      replace hE := hid hE
      clear hr1
      go_enter Try.func54, Try.ntmps54
      go_wp2_with fail
      refine (at_own p g n n i _ hn s2 hi).mono ?_
      rintro e w1 ⟨rfl, rfl⟩
      go_wp2_with fail
      clear s1 s2 c0 c1 c2 c3 f0 f1 f2 f3
      have hks := hid hkids.out.1
      go_loopw [32] (fun v wr => ∃ j : Nat, j ≤ kn ∧ v = .int .i64 j ∧ Kept g w1 wr ∧ ∃ C, Own wr g n C ∧ RightT n C (ks.drop j ++ T) ∧ Fell n (upd B i Blk.zero) C (ks.take j)) (fun v _ => kn - (Go.RowKit.intOf v).toNat)
      case atStart => exact ⟨0, Nat.zero_le _, rfl, hkp.out, _, hO1.out, hR'.out, by simpa using fell_nil hR'.out.one⟩
      case round =>
        clear hO1 hkp hR'
        obtain ⟨j, hjn, rfl, hkp, C, hO, hR, hF⟩ := hrel
        by_cases hlt : j < kn
        · obtain ⟨kb, ko, rfl, hkb, hgk, hc⟩ := hkids.out.2.2 (by omega)
          have hck : wr.cell? ⟨kb, ko + j, none⟩ = some (.int .i64 (ks.getD j 0)) := (hkp.cell (p := ⟨kb, ko + j, none⟩) (by simp; omega)).trans (hc j hlt)
          have hjl : j < ks.length := by rw [hks.out]; exact hlt
          have hmem : ks.getD j 0 ∈ ks := hkids.out.getD hlt
          have htk := take_snoc hjl
          have hdr : ks.drop j = ks.getD j 0 :: ks.drop (j + 1) := by
            rw [List.drop_eq_getElem_cons hjl]; simp [List.getD, hjl]
          rw [hdr] at hR
          replace htk := hid htk
          replace hmem := hid hmem
          clear hc hdr hjl
          generalize ks.getD j 0 = x at *
          by_cases hx0 : x = 0
          · have hx0' : (x == 0) = true := by simp [hx0]
            have hF' : Hid (Fell n (upd B i Blk.zero) C (ks.take (j + 1))) := hid (by rw [htk.out, hx0]; exact hF.trans (fell_zero hR.one))
            have hR1 : Hid (RightT n C (ks.drop (j + 1) ++ T)) := hid (by rw [hx0] at hR; exact hR.skip)
            replace hO := hid hO
            clear hF hR
            go_wp2_with fail
            go_roundw
            case rel => exact ⟨j + 1, by omega, by go_num, hkp, C, hO.out, hR1.out, hF'.out⟩
            case measure => simp [Go.RowKit.intOf]; omega
          · have hx0' : (x == 0) = false := by simp [hx0]
            have hR1 : RightT n C (x :: (ks.drop (j + 1) ++ T)) := hR
            have hth := hR1.there (List.mem_cons_self ..) hx0
            obtain ⟨m, rfl⟩ : ∃ m : Nat, x = (m : Int) + 1 := ⟨(x - 1).toNat, by have := hth.1.1; omega⟩
            have hm : m < n := by have := hth.1.2.1; omega
            have hlm : (C m).level < f := by
              have h1 := hF.level hth.1
              rw [show ((m : Int) + 1 - 1).toNat = m by omega] at h1
              have h3 := hlev.out m hmem.out
              have hmi : m ≠ i := by
                intro e
                subst e
                have h5 := hth.2
                rw [show ((m : Int) + 1 - 1).toNat = m by omega] at h5
                rcases hF.same m hm with h6 | ⟨_, h6, _⟩
                · rw [h6] at h5
                  exact absurd h5 (by decide)
                · rw [upd_same] at h6
                  have : Blk.zero.refs = 0 := rfl
                  omega
              rw [upd_other _ _ _ _ hmi] at h1
              omega
            have hE' := hE.out.kept hkp
            have l1 := hE'.l
            replace hO := hid hO
            replace hF := hid hF
            replace hR1 := hid hR1
            replace hlm := hid hlm
            replace hE' := hid hE'
            clear hR hth
            go_wp2_with fail
            refine (ih.out C m (ks.drop (j + 1) ++ T) wr hm hR1.out hlm.out hE'.out hO.out).mono ?_
            rintro e w2 ⟨rfl, hk2, D, hO2, hR2, hF2⟩
            replace hO2 := hid hO2
            replace hR2 := hid hR2
            replace hF2 := hid hF2
            go_wp2_with fail
            go_roundw
            case rel => exact ⟨j + 1, by omega, by go_num, hkp.trans hk2, D, hO2.out, hR2.out, by rw [htk.out]; exact hF.out.trans hF2.out⟩
            case measure => simp [Go.RowKit.intOf]; omega
        · obtain rfl : j = kn := by omega
          have e1 : ks.drop j = [] := List.drop_of_length_le (by rw [hks.out]; exact Nat.le_refl _)
          have e2 : ks.take j = ks := List.take_of_length_le (by rw [hks.out]; exact Nat.le_refl _)
          rw [e1, List.nil_append] at hR
          rw [e2] at hF
          replace hO := hid hO
          replace hF := hid hF
          replace hR := hid hR
          clear e1 e2
          go_wp2_with fail
          go_end0
          exact ⟨rfl, hkp, C, hO.out, hR.out, hdone.out C hF.out⟩

theorem checkThere_any (p : Addr) (a : Option Addr) (n c : Nat) (B : Nat → Blk) (x : Int) (w : World) (h : PtrAt w p a n c B) :
    Calls Try.prog 43 #[.pointer (some p), .int .i64 x] w fun e w' => RetE e (Right n B ∧ There n B x) ∧ Below w.heap.size w w' := by
  go_enter Try.func43, Try.ntmps43
  go_wp2_with fail
  refine (check_any p a n c B w h).mono ?_
  rintro e w1 ⟨⟨e', rfl, he⟩, hb1⟩
  replace h := h.below hb1
  have hs := h.cell
  replace he := hid he
  replace h := hid h
  by_cases h0 : e' = 0
  · have h0' : (e' == 0) = true := by simp [h0]
    have hR := hid (he.out.1 h0)
    go_wp2_with fail
    refine (there_any p a n c B x _ hR.out.small hs h.out.store).mono ?_
    rintro e w1 ⟨⟨t, rfl, ht⟩, rfl⟩
    replace ht := hid ht
    cases t
    · go_wp2_with fail
      go_ret
      exact ⟨retE_no 5 (by omega) (fun e => by simpa using ht.out.2 e.2), hb1⟩
    · go_wp2_with fail
      go_ret
      exact ⟨retE_yes ⟨hR.out, by simpa using ht.out⟩, hb1⟩
  · have h0' : (e' == 0) = false := by simp [h0]
    go_wp2_with fail
    go_ret
    exact ⟨retE_no e' h0 (fun f => h0 (he.out.2 f.1)), hb1⟩

theorem OwnPtr.ptr {w : World} {p : Addr} {g n : Nat} {B : Nat → Blk} (h : OwnPtr w p g n B) : PtrAt w p (some ⟨g, 0, none⟩) n n B := ⟨h.lt, h.cell, h.own.store⟩
theorem OwnPtr.below {w w' : World} {p : Addr} {g n : Nat} {B : Nat → Blk} (h : OwnPtr w p g n B) (hb : Below w.heap.size w w') : OwnPtr w' p g n B :=
  ⟨Nat.lt_of_lt_of_le h.lt hb.size, h.ne, (hb.cell h.lt).trans h.cell, h.own.below hb⟩
theorem OwnPtr.kept {w w' : World} {p : Addr} {g n : Nat} {B C : Nat → Blk} (h : OwnPtr w p g n B) (hk : Kept g w w') (ho : Own w' g n C) : OwnPtr w' p g n C :=
  ⟨by rw [hk.size]; exact h.lt, h.ne, (hk.cell h.ne).trans h.cell, ho⟩

/-- what was there but block g is as it was -/
structure Out (g : Nat) (w w' : World) : Prop where
  os : w'.os = w.os
  tape : w'.tape = w.tape
  output : w'.output = w.output
  size : w.heap.size ≤ w'.heap.size
  block : ∀ k, k < w.heap.size → k ≠ g → w'.heap[k]? = w.heap[k]?
theorem Out.of_below {g : Nat} {w w' : World} (h : Below w.heap.size w w') : Out g w w' := ⟨h.os, h.tape, h.output, h.size, fun k hk _ => h.block k hk⟩
theorem Out.of_kept {g : Nat} {w w' : World} (h : Kept g w w') : Out g w w' := ⟨h.os, h.tape, h.output, Nat.le_of_eq h.size.symm, fun k _ hk => h.block k hk⟩
theorem Out.trans {g : Nat} {a b c : World} (h : Out g a b) (k : Out g b c) : Out g a c :=
  ⟨k.os.trans h.os, k.tape.trans h.tape, k.output.trans h.output, Nat.le_trans h.size k.size, fun i hi hg => (k.block i (Nat.lt_of_lt_of_le hi h.size) hg).trans (h.block i hi hg)⟩
theorem Out.below {g B : Nat} {w w' : World} (h : Out g w w') (hB : B ≤ g) (hs : B ≤ w.heap.size) : Below B w w' := ⟨h.os, h.tape, h.output, h.size, fun k hk => h.block k (by omega) (by omega)⟩
theorem Out.cell {g : Nat} {w w' : World} (h : Out g w w') {p : Addr} (hp : p.block < w.heap.size) (hg : p.block ≠ g) : w'.cell? p = w.cell? p := World.cell?_of_block (w := w) (h.block p.block hp hg)

end Go.Proofs.Ytpccgjjclhgcnad
