/-
  The contract of blocks.Drop. Nothing here is trusted.
-/
import Derived.Test.YtaagnojdpediladBlocks5
import Derived.Deep.RegionWith
import Derived.Deep.Cut
import Derived.Laws.EntriesVeiled
set_option linter.unusedVariables false
namespace Go.Proofs.Ytaagnojdpedilad
open Go.RowKit

theorem below_drew (B : Nat) (w : World) : Below B w w.drew := ⟨rfl, rfl, rfl, Nat.le_refl _, fun _ _ => rfl⟩

/-- what Drop of one's own store answers: an error, and nothing has turned; or what it has come to be -/
def Dropped (e : Ending) (w : World) (p : Addr) (g n : Nat) (B : Nat → Blk) (a : Int) (w' : World) : Prop :=
  (∃ e' : Int, e = .returned (.int .i64 e') ∧ e' ≠ 0 ∧ ¬ (Right n B ∧ There n B a ∧ (B (a - 1).toNat).refs ≠ (among n B a : Int))) ∨
  (e = .returned (.int .i64 0) ∧ (Right n B ∧ There n B a ∧ (B (a - 1).toNat).refs ≠ (among n B a : Int)) ∧ ∃ C, OwnPtr w' p g n C ∧ Right n C ∧ Fell n B C [a])

set_option maxHeartbeats 2000000 in
set_option maxRecDepth 100000 in
theorem drop_any (p : Addr) (g n : Nat) (B : Nat → Blk) (a : Int) (w : World) (h : OwnPtr w p g n B) :
    Calls Try.prog 46 #[.pointer (some p), .int .i64 a] w fun e w' => Dropped e w p g n B a w' ∧ Out g w w' := by
  have hg0 : g < w.heap.size := h.own.lt
  go_enter Try.func46, Try.ntmps46
  go_wp2_with fail
  refine (checkThere_any p _ n n B a w h.ptr).mono ?_
  rintro e w1 ⟨⟨e', rfl, he⟩, hb⟩
  replace h := h.below hb
  replace he := hid he
  replace h := hid h
  by_cases h0 : e' = 0
  · have h0' : (e' == 0) = true := by simp [h0]
    obtain ⟨hR, ht⟩ := he.out.1 h0
    obtain ⟨i, rfl⟩ : ∃ i : Nat, a = (i : Int) + 1 := ⟨(a - 1).toNat, by have := ht.1; omega⟩
    have ei : ((i : Int) + 1 - 1).toNat = i := by omega
    have hi : i < n := by have := ht.2.1; omega
    have hn := hR.small
    have s1 := h.out.cell
    have hp := h.out.lt
    obtain ⟨ka, kn, kc, ba, bn, bc, hbk⟩ := h.out.own.cell hi
    have c0 := hbk.c0
    replace hR := hid hR
    replace ht := hid ht
    clear hbk
    generalize hrf : (B i).refs = rf at *
    replace hrf := hid hrf
    go_wp2_with fail
    have hiI : (i : Int) < (n : Int) := by omega
    have hiI0 : (0 : Int) ≤ (i : Int) := by omega
    have hiI1 : IntKind.i64.wrap (i : Int) = i := by rw [IntKind.wrap_i64]; omega
    have hiI2 : IntKind.i64.wrap ((i : Int) + 1 - 1) = i := by rw [IntKind.wrap_i64]; omega
    go_cut [24] from 12 (fun t wc => t = .bool (rf == ((among n B ((i : Int) + 1) : Nat) : Int)) ∧ Below w1.heap.size w1 wc)
    case first =>
      go_region_with (first
        | (go_at_call 36; refine (at_own p g n n i _ hn ?_ hi).mono ?_; exact s1; rintro e w' ⟨rfl, rfl⟩)
        | (go_at_call 48; refine (amongKids_any p (some ⟨g, 0, none⟩) n n B _ hn ?_ ?_ ?_ ?_).mono ?_; exact hp; exact s1; exact h.out.own.store.below (below_drew _ _); exact hR.out.one; rintro e w2 ⟨rfl, hrow, hb2⟩; have q1 := (hb2.cell (p := p) hp).trans s1; have q2 := (hb2.cell (p := ⟨g, i * 4, none⟩) h.out.own.lt).trans c0; have hrc : w2.cell? ⟨w1.heap.size, i, none⟩ = some (.int .i64 ((among n B ((i : Int) + 1) : Nat) : Int)) := hrow.cell hi; replace hrow := hid hrow; replace hb2 : Hid (Below w1.heap.size w1 w2) := hid ((below_drew _ _).trans hb2)))
      all_goals (go_wp2_with fail; go_meet; exact ⟨rfl, hb2.out⟩)
    case rest =>
      obtain ⟨rfl, hb2⟩ := hcut
      replace h := h.out.below hb2
      replace hb := Below.tr hb hb2
      clear hb2 s1 c0 hp hiI hiI0 hiI1 hiI2
      generalize ham : ((among n B ((i : Int) + 1) : Nat) : Int) = am at *
      replace ham := hid ham
      replace h := hid h
      by_cases heq : rf = am
      · have heq' : (rf == am) = true := by simp [heq]
        go_wp2_with fail
        go_ret
        exact ⟨.inl ⟨7, rfl, by omega, fun f => f.2.2 (by rw [ei, hrf.out, ham.out, heq])⟩, Out.of_below hb⟩
      · have heq' : (rf == am) = false := by simp [heq]
        have hT : RightT n B [(i : Int) + 1] := right_held hR.out (by omega) (by omega) (by rw [ei, hrf.out, ham.out]; exact heq)
        replace hT := hid hT
        go_wp2_with fail
        have b3 := below_alloc wc (.cells #[.int .i64 ((i : Int) + 1)] 3)
        have k3 := cellsAt_alloc wc #[.int .i64 ((i : Int) + 1)] 3
        have hgl : g ≠ wc.heap.size := Nat.ne_of_lt h.out.own.lt
        have h3 := h.out.below b3
        replace hb := Below.tr hb b3
        generalize wc.alloc (.cells #[.int .i64 ((i : Int) + 1)] 3) = w3 at *
        have hN : NumsAt (fun b => b ≠ g) .i64 w3 (some ⟨wc.heap.size, 0, none⟩) 1 [(i : Int) + 1] := by
          refine ⟨rfl, fun x hx => ?_, fun _ => ⟨_, _, rfl, k3.lt, fun e => hgl e.symm, fun j hj => ?_⟩⟩
          · rw [List.mem_singleton.1 hx]; exact WalkArith.wf_i64 (by omega)
          · obtain rfl : j = 0 := by omega
            rw [Nat.zero_add, k3.cell 0]
            rfl
        refine (letGo_any p g n B (some ⟨wc.heap.size, 0, none⟩) 1 1 [(i : Int) + 1] w3 h3 hN (by omega) hT.out).mono ?_
        rintro e w4 ⟨rfl, hk4, C, h4, hR4, hF4⟩
        replace h4 := hid h4
        replace hR4 := hid hR4
        replace hF4 := hid hF4
        replace hb := hid ((Out.of_below (g := g) hb).trans hk4)
        clear hk4 h3 hN k3
        go_wp2_with fail
        go_ret
        exact ⟨.inr ⟨rfl, ⟨hR.out, ht.out, by rw [ei, hrf.out, ham.out]; exact heq⟩, C, h4.out, hR4.out, hF4.out⟩, hb.out⟩
  · have h0' : (e' == 0) = false := by simp [h0]
    go_wp2_with fail
    go_ret
    exact ⟨.inl ⟨e', rfl, h0, fun f => h0 (he.out.2 ⟨f.1, f.2.1⟩)⟩, Out.of_below hb⟩

end Go.Proofs.Ytaagnojdpedilad
