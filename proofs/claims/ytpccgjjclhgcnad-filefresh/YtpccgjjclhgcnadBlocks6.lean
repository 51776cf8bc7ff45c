/-
  The contract of blocks.Drop. Nothing here is trusted.
-/
import Derived.Test.YtpccgjjclhgcnadBlocks5
import Derived.Deep.RegionWith
import Derived.Deep.Cut
import Derived.Laws.EntriesVeiled
set_option linter.unusedVariables false
namespace Go.Proofs.Ytpccgjjclhgcnad
open Go.RowKit

theorem below_drew (B : Nat) (w : World) : Below B w w.drew := ⟨rfl, rfl, rfl, Nat.le_refl _, fun _ _ => rfl⟩

/-- what Drop of one's own store answers: an error, and nothing has turned; or what it has come to be -/
def Dropped (e : Ending) (w : World) (p : Addr) (g n : Nat) (B : Nat → Blk) (a : Int) (w' : World) : Prop :=
  (∃ e' : Int, e = .returned (.int .i64 e') ∧ e' ≠ 0 ∧ ¬ (Right n B ∧ There n B a ∧ (B (a - 1).toNat).refs ≠ (among n B a : Int))) ∨
  (e = .returned (.int .i64 0) ∧ (Right n B ∧ There n B a ∧ (B (a - 1).toNat).refs ≠ (among n B a : Int)) ∧ ∃ C, OwnPtr w' p g n C ∧ Right n C ∧ Fell n B C [a])

set_option maxHeartbeats 2000000 in
set_option maxRecDepth 100000 in
theorem drop_any (p : Addr) (g n : Nat) (B : Nat → Blk) (a : Int) (w : World) (h : OwnPtr w p g n B) :
    Calls Try.prog 46 #[.pointer (some p), .int .i64 a] w fun e w' => Dropped e w p g n B a w' ∧ Out g w w' := by
  have hmf : ∀ (fn : Fn) (first cap : Array Value) (w : World), (Instr.makeFunc fn first cap).run Try.prog w = .ok (.func fn first cap) w := fun _ _ _ _ => rfl
  have hg0 : g < w.heap.size := h.own.lt
  have b0 := below_alloc w (.cells #[.pointer (some p)] 52)
  have k0 : CellsAt _ w.heap.size #[.pointer (some p)] 52 := cellsAt_alloc w _ _
  go_enter Try.func46, Try.ntmps46
  go_wp2_with fail
  replace h := h.below b0
  generalize w.alloc (.cells #[.pointer (some p)] 52) = w0 at *
  refine (checkThere_any p _ n n B a w0 h.ptr).mono ?_
  rintro e w1 ⟨⟨e', rfl, he⟩, hb1⟩
  replace h := h.below hb1
  replace k0 := k0.below hb1
  have hb := Below.tr b0 hb1
  clear b0 hb1
  have s0 := k0.cell 0
  simp at s0
  replace he := hid he
  replace h := hid h
  by_cases h0 : e' = 0
  · have h0' : (e' == 0) = true := by simp [h0]
    obtain ⟨hR, ht⟩ := he.out.1 h0
    obtain ⟨i, rfl⟩ : ∃ i : Nat, a = (i : Int) + 1 := ⟨(a - 1).toNat, by have := ht.1; omega⟩
    have ei : ((i : Int) + 1 - 1).toNat = i := by omega
    have hi : i < n := by have := ht.2.1; omega
    have hn := hR.small
    have s1 := h.out.cell
    have hp := h.out.lt
    obtain ⟨ka, kn, kc, ba, bn, bc, hbk⟩ := h.out.own.cell hi
    have c0 := hbk.c0
    replace hR := hid hR
    replace ht := hid ht
    replace k0 := hid k0
    clear hbk
    generalize hrf : (B i).refs = rf at *
    replace hrf := hid hrf
    go_wp2_with fail
    have hiI : (i : Int) < (n : Int) := by omega
    have hiI0 : (0 : Int) ≤ (i : Int) := by omega
    have hiI1 : IntKind.i64.wrap (i : Int) = i := by rw [IntKind.wrap_i64]; omega
    have hiI2 : IntKind.i64.wrap ((i : Int) + 1 - 1) = i := by rw [IntKind.wrap_i64]; omega
    go_cut [25] from 13 (fun t wc => t = .bool (rf == ((among n B ((i : Int) + 1) : Nat) : Int)) ∧ Below w1.heap.size w1 wc)
    case first =>
      go_region_with (first
        | (go_at_call 36; refine (at_own p g n n i _ hn ?_ hi).mono ?_; exact s1; rintro e w' ⟨rfl, rfl⟩)
        | (go_at_call 48; refine (amongKids_any p (some ⟨g, 0, none⟩) n n B _ hn ?_ ?_ ?_ ?_).mono ?_; exact hp; exact s1; exact h.out.own.store.below (below_drew _ _); exact hR.out.one; rintro e w2 ⟨rfl, hrow, hb2⟩; have q0 := (hb2.cell (p := ⟨w.heap.size, 0, none⟩) k0.out.lt).trans s0; have q1 := (hb2.cell (p := p) hp).trans s1; have q2 := (hb2.cell (p := ⟨g, i * 4, none⟩) h.out.own.lt).trans c0; have hrc : w2.cell? ⟨w1.heap.size, i, none⟩ = some (.int .i64 ((among n B ((i : Int) + 1) : Nat) : Int)) := hrow.cell hi; replace hrow := hid hrow; replace hb2 : Hid (Below w1.heap.size w1 w2) := hid ((below_drew _ _).trans hb2)))
      all_goals (go_wp2_with fail; go_meet; exact ⟨rfl, hb2.out⟩)
    case rest =>
      obtain ⟨rfl, hb2⟩ := hcut
      replace h := h.out.below hb2
      replace k0 := k0.out.below hb2
      replace hb := Below.tr hb hb2
      clear hb2 s0 s1 c0 hp hiI hiI0 hiI1 hiI2
      replace s0 := k0.cell 0
      simp at s0
      generalize ham : ((among n B ((i : Int) + 1) : Nat) : Int) = am at *
      replace ham := hid ham
      replace h := hid h
      replace k0 := hid k0
      by_cases heq : rf = am
      · have heq' : (rf == am) = true := by simp [heq]
        go_wp2_with fail
        go_ret
        exact ⟨.inl ⟨7, rfl, by omega, fun f => f.2.2 (by rw [ei, hrf.out, ham.out, heq])⟩, Out.of_below hb⟩
      · have heq' : (rf == am) = false := by simp [heq]
        have hT : RightT n B [(i : Int) + 1] := right_held hR.out (by omega) (by omega) (by rw [ei, hrf.out, ham.out]; exact heq)
        have hlev := (hR.out.one i hi).bounds
        replace hT := hid hT
        go_wp2_with fail
        have b3 := below_alloc wc (.cells #[.func (.func 54) #[] #[.pointer (some ⟨w.heap.size, 0, none⟩), .pointer (some ⟨wc.heap.size, 0, none⟩)]] 90)
        have k3 := cellsAt_alloc wc #[.func (.func 54) #[] #[.pointer (some ⟨w.heap.size, 0, none⟩), .pointer (some ⟨wc.heap.size, 0, none⟩)]] 90
        have hgl : g ≠ wc.heap.size := Nat.ne_of_lt h.out.own.lt
        have h3 := h.out.below b3
        have k0' := k0.out.below b3
        replace hb := Below.tr hb b3
        have hgs : w.heap.size ≠ g := by omega
        generalize wc.alloc (.cells #[.func (.func 54) #[] #[.pointer (some ⟨w.heap.size, 0, none⟩), .pointer (some ⟨wc.heap.size, 0, none⟩)]] 90) = w3 at *
        have e0 := k0'.cell 0
        have e1 := k3.cell 0
        simp at e0 e1
        have hE : Env w3 p w.heap.size wc.heap.size g n := ⟨e0, e1, h3.cell, hgs, fun e => hgl e.symm, h3.ne⟩
        refine (less_any p w.heap.size wc.heap.size g n hn 4 B i [] w3 hi hT.out (by omega) hE h3.own).mono ?_
        rintro e w4 ⟨rfl, hk4, C, hO4, hR4, hF4⟩
        have h4 := h3.kept hk4 hO4
        replace h4 := hid h4
        replace hR4 := hid hR4
        replace hF4 := hid hF4
        replace hb := hid ((Out.of_below (g := g) hb).trans (Out.of_kept hk4))
        clear hk4 hO4 hE h3 k0' e0 e1
        go_wp2_with fail
        go_ret
        exact ⟨.inr ⟨rfl, ⟨hR.out, ht.out, by rw [ei, hrf.out, ham.out]; exact heq⟩, C, h4.out, hR4.out, hF4.out⟩, hb.out⟩
  · have h0' : (e' == 0) = false := by simp [h0]
    go_wp2_with fail
    go_ret
    exact ⟨.inl ⟨e', rfl, h0, fun f => h0 (he.out.2 ⟨f.1, f.2.1⟩)⟩, Out.of_below hb⟩

end Go.Proofs.Ytpccgjjclhgcnad
