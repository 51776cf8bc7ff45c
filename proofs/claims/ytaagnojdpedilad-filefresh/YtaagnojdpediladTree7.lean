/-
  Contract of tree.Put. Nothing here is trusted.
-/
import Derived.Test.YtaagnojdpediladTree6
set_option linter.unusedVariables false
namespace Go.Proofs.Ytaagnojdpedilad
open Go.RowKit

/-- what Put answers, of a store in which nothing is held more often than cc -/
def RetPut (base : Nat) (e : Ending) (w : World) (n : Nat) (B : Nat → Blk) (root lv i : Int) (bs : List Int) (cc : Int) : Prop :=
  (∃ e' : Int, e = .returned (.tuple #[.agg #[.slice none 0 0], .int .i64 0, .int .i64 e']) ∧ e' ≠ 0 ∧ (Checked n B root lv i → bs = [] ∨ bs.length = 4 → e' = 8 ∧ (n : Int) ≤ usedTo B n + lv)) ∨
  (∃ (l j : Nat) (C : Nat → Blk) (a : Int) (g : Nat), e = .returned (.tuple #[.agg #[.slice (some ⟨g, 0, none⟩) n n], .int .i64 a, .int .i64 0]) ∧ lv = l ∧ i = j ∧ l ≤ 3 ∧ j < pw l ∧ Right n B ∧ Root n B l root ∧ (bs = [] ∨ bs.length = 4) ∧ PutOk n B l root j bs cc C a ∧
    base ≤ g ∧ g < w.heap.size ∧ Blocks (fun b => base ≤ b) w g 0 n C)

set_option maxHeartbeats 4000000 in
set_option maxRecDepth 100000 in
theorem treePut_any (a : Option Addr) (n c : Nat) (B : Nat → Blk) (root lv i : Int) (ba : Option Addr) (bn bc : Nat) (bs : List Int) (cc : Int) (w : World) (h : StoreAt w a n B) (hb : NumsAt (fun _ => True) .u8 w ba bn bs) (hbc : bn ≤ bc) (h1 : 1 ≤ cc) (hcm : cc ≤ 999984) (hc : ∀ k, k < n → (B k).refs ≤ cc) :
    Calls Try.prog 45 #[.agg #[.slice a n c], .int .i64 root, .int .i64 lv, .int .i64 i, .slice ba bn bc] w fun e w' => RetPut w.heap.size e w' n B root lv i bs cc ∧ Below w.heap.size w w' := by
  have b0 := (below_alloc w (.cells #[.slice a n c] 24)).alloc (by simp) (.cells #[.slice none 0 0] 24)
  have ks : CellsAt _ w.heap.size #[.slice a n c] 24 := (cellsAt_alloc w _ _).below (below_alloc _ (.cells #[.slice none 0 0] 24))
  have kr : CellsAt _ (w.heap.size + 1) #[.slice none 0 0] 24 := cellsAt_alloc2 w (.cells #[.slice a n c] 24) _ _
  have hsz : w.heap.size + 2 = ((w.alloc (.cells #[.slice a n c] 24)).alloc (.cells #[.slice none 0 0] 24)).heap.size := by simp
  have hP : PtrAt _ ⟨w.heap.size, 0, none⟩ a n c B := (ptr_boxed a n c B w 24 h).below (below_alloc _ (.cells #[.slice none 0 0] 24))
  replace hb := hid (hb.below b0)
  replace hP := hid hP
  replace ks := hid ks
  replace kr := hid kr
  replace hsz := hid hsz
  replace hc := hid hc
  clear h
  go_enter Try.func45, Try.ntmps45
  go_wp2_with fail
  generalize (w.alloc (.cells #[.slice a n c] 24)).alloc (.cells #[.slice none 0 0] 24) = w0 at *
  refine (treeCheck_any ⟨w.heap.size, 0, none⟩ a n c B root lv i w0 hP.out).mono ?_
  rintro e w1 ⟨⟨e1, rfl, he⟩, b1⟩
  have hsz1 : Hid (w.heap.size + 2 ≤ w1.heap.size) := hid (by have := hsz.out; have := b1.size; omega)
  replace hb := hid (hb.out.below b1)
  replace hP := hid (hP.out.below b1)
  replace ks := hid (ks.out.below b1)
  replace kr := hid (kr.out.below b1)
  replace b1 := Below.tr b0 b1
  clear b0 hsz
  by_cases h0 : e1 = 0
  · have h0' : (e1 == 0) = true := by simp [h0]
    obtain ⟨hR, l, hl, rfl, hr, hi0, hi1⟩ := he.1 h0
    obtain ⟨j, rfl⟩ : ∃ j : Nat, i = (j : Int) := ⟨i.toNat, by omega⟩
    have hj : j < pw l := by omega
    have hn := hR.small
    clear he hi0 hi1
    have hbl := hb.out.1
    by_cases hbs : bs = [] ∨ bs.length = 4
    · have hbn : bn = 0 ∨ bn = 4 := by
        rcases hbs with h | h
        · left; rw [← hbl, h]; rfl
        · right; rw [← hbl, h]
      have hF : ∀ i, i < n → (B i).kids.length ≤ 4 ∧ (B i).bytes.length ≤ 4 := fun i hi => ⟨(hR.one i hi).few, (hR.one i hi).few2⟩
      replace hF := hid hF
      replace hbs := hid hbs
      replace hR := hid hR
      replace hr := hid hr
      have hs1 := hP.out.cell
      clear hbl
      rcases hbn with rfl | rfl
      all_goals (
        go_wp2_with fail
        refine (copy_any ⟨w.heap.size, 0, none⟩ a n c B w1 hP.out hn hF.out).mono ?_
        rintro e w2 ⟨b2, g, rfl, hg, hOwn⟩
        have hsz2 := hsz1.out
        have hOl := hOwn.lt
        have k2 := cellsAt_alloc w2 #[.slice (some ⟨g, 0, none⟩) n n] 24
        have b3 := below_alloc w2 (.cells #[.slice (some ⟨g, 0, none⟩) n n] 24)
        have hP3 : OwnPtr (w2.alloc (.cells #[.slice (some ⟨g, 0, none⟩) n n] 24)) ⟨w2.heap.size, 0, none⟩ g n B := ⟨k2.lt, by show w2.heap.size ≠ g; omega, by simp, hOwn.below b3⟩
        have hb3 := ((hb.out.weaken (R := fun b => b ≠ g) (fun b h _ => by omega)).below b2).below b3
        have kr3 := (kr.out.below b2).below b3
        have b13 := Below.tr (Below.tr b1 b2) b3
        replace hP3 := hid hP3
        replace hb3 := hid hb3
        replace kr3 := hid kr3
        replace b13 := hid b13
        clear hOwn hb hP ks kr b1 b2 b3 k2 hs1
        go_wp2_with fail
        generalize w2.alloc (.cells #[.slice (some ⟨g, 0, none⟩) n n] 24) = w3 at *
        refine (put_any ⟨w2.heap.size, 0, none⟩ g n ba _ bc bs cc hbs.out hbc h1 hcm l B root j w3 hl hR.out hr.out hj hc.out hP3.out hb3.out).mono ?_
        rintro e w4 ⟨hD, hO, hFr⟩
        have hsz3 := b13.out.size
        have kr4 : CellsAt w4 (w.heap.size + 1) #[.slice none 0 0] 24 := (by unfold CellsAt; rw [hO.block _ kr3.out.lt (by omega)]; exact kr3.out)
        have r0 := kr4.cell 0
        have r1 := kr4.frozen 0
        simp at r0
        have b4 := b13.out.trans (hO.below (B := w.heap.size) (by omega) (by omega))
        clear hO hFr
        rcases hD with ⟨e', rfl, he, rfl, hus⟩ | ⟨C, a, rfl, hPk, hC⟩
        · go_wp2_with fail
          refine bodyPost_ret (v := .tuple #[.agg #[.slice none 0 0], .int .i64 0, .int .i64 8]) (by rw [results_cell_tmps rfl]; go_simp) rfl ⟨.inl ⟨8, rfl, by omega, fun _ _ => ⟨rfl, by omega⟩⟩, b4.setCell (by simp) _⟩
        · have s4 := hC.cell
          have kk := Kept.setCell (g := w.heap.size + 1) (Kept.refl _ w4) (p := ⟨w.heap.size + 1, 0, none⟩) rfl (.slice (some ⟨g, 0, none⟩) n n)
          have hB5 := (hC.own.blocks.kept (by omega) (fun b h => by omega) kk).weaken (R := fun b => w.heap.size ≤ b) (fun b _ h => by omega)
          have hgl : g < (w4.setCell ⟨w.heap.size + 1, 0, none⟩ (.slice (some ⟨g, 0, none⟩) n n)).heap.size := (by rw [kk.size]; exact hC.own.lt)
          replace hB5 := hid hB5
          replace hgl := hid hgl
          replace hPk := hid hPk
          replace hC := hid hC
          go_wp2_with fail
          refine bodyPost_ret (v := .tuple #[.agg #[.slice (some ⟨g, 0, none⟩) n n], .int .i64 a, .int .i64 0]) (by rw [results_cell_tmps rfl]; go_simp) rfl ⟨.inr ⟨l, j, C, a, g, rfl, rfl, rfl, hl, hj, hR.out, hr.out, hbs.out, hPk.out, by omega, hgl.out, hB5.out⟩, b4.setCell (by simp) _⟩)
    · have hbn0 : ((bn : Int) == 0) = false := by simp; intro h; exact hbs (.inl (List.eq_nil_of_length_eq_zero (by omega)))
      have hbn4 : ((bn : Int) == 4) = false := by simp; intro h; exact hbs (.inr (by omega))
      have r0 := kr.out.cell 0
      have r1 := kr.out.frozen 0
      simp at r0
      have hbn0' : ¬ bn = 0 := by simp at hbn0; omega
      have hbn4' : ¬ bn = 4 := by simp at hbn4; omega
      have hbn1 : ((bn : Int) != 0) = true := by simp; omega
      have hbn2 : ((bn : Int) != 4) = true := by simp; omega
      replace hbs := hid hbs
      go_wp2_with fail
      refine bodyPost_ret (v := .tuple #[.agg #[.slice none 0 0], .int .i64 0, .int .i64 2]) (by rw [results_cell_tmps rfl]; go_simp) rfl ⟨.inl ⟨2, rfl, by omega, fun _ f => absurd f hbs.out⟩, b1.setCell (by simp) _⟩
  · have h0' : (e1 == 0) = false := by simp [h0]
    have hno : Hid (¬ Checked n B root lv i) := hid (fun f => h0 (he.2 f))
    have r0 := kr.out.cell 0
    have r1 := kr.out.frozen 0
    simp at r0
    clear he
    go_wp2_with fail
    refine bodyPost_ret (v := .tuple #[.agg #[.slice none 0 0], .int .i64 0, .int .i64 e1]) (by rw [results_cell_tmps rfl]; go_simp) rfl ⟨.inl ⟨e1, rfl, h0, fun f => absurd f hno.out⟩, b1.setCell (by simp) _⟩
end Go.Proofs.Ytaagnojdpedilad
