/-
  Contract of file.turnLeaf. Nothing here is trusted.
-/
import Derived.Test.YtaagnojdpediladFileF
import Derived.Test.YtaagnojdpediladPutF
set_option linter.unusedVariables false
namespace Go.Proofs.Ytaagnojdpedilad
open Go.RowKit

/-- what turnLeaf makes -/
def LeafTurned (n : Nat) (C : Nat → Blk) (key root : Int) (i : Nat) (p : List Int) (cc : Int) (E : Nat → Blk) (a' : Int) : Prop :=
  ∃ D, PutOk n C 3 root i (leafFor key i p) cc D a' ∧ ((root = 0 ∧ E = D) ∨ (∃ m : Nat, root = (m : Int) + 1 ∧ Right n E ∧ Fell n D E [(m : Int) + 1]))
/-- what turnLeaf answers -/
def RetTL (base : Nat) (e : Ending) (w : World) (n : Nat) (C : Nat → Blk) (key root : Int) (i : Nat) (p : List Int) (cc : Int) : Prop :=
  ∃ (x : Option Addr) (ln lc : Nat) (a' e' : Int), e = .returned (.tuple #[.agg #[.slice x ln lc], .int .i64 a', .int .i64 e']) ∧
    ((x = none ∧ ln = 0 ∧ lc = 0 ∧ a' = 0 ∧ e' = 8 ∧ n ≤ usedTo C n + 3) ∨ (e' = 0 ∧ ∃ (g : Nat) (E : Nat → Blk), x = some ⟨g, 0, none⟩ ∧ ln = n ∧ lc = n ∧ LeafTurned n C key root i p cc E a' ∧ base ≤ g ∧ Own w g n E))

theorem Own.kept {w w' : World} {g n q : Nat} {B : Nat → Blk} (h : Own w g n B) (hq : q < g) (hk : Kept q w w') : Own w' g n B :=
  ⟨by rw [hk.size]; exact h.lt, h.blocks.kept (by omega) (fun b h => by omega) hk, fun i hi => (hk.frozen (p := ⟨g, i, none⟩) (by show g ≠ _; omega)).trans (h.free i hi)⟩

set_option maxHeartbeats 4000000 in
set_option maxRecDepth 100000 in
theorem turnLeaf_any (a : Option Addr) (n c : Nat) (C : Nat → Blk) (key root : Int) (i : Nat) (ba : Option Addr) (bc : Nat) (p : List Int) (cc : Int) (w : World) (h : StoreAt w a n C) (hR : Right n C) (hr : Root n C 3 root) (hi : i < 64) (hk : 0 ≤ key ∧ key ≤ 1000)
    (hp : NumsAt (fun _ => True) .u8 w ba 4 p) (h1 : 1 ≤ cc) (hcm : cc ≤ 999984) (hc : ∀ k, k < n → (C k).refs ≤ cc) (hd : ∀ (m : Nat) (D : Nat → Blk) (a' : Int), root = (m : Int) + 1 → PutOk n C 3 root i (leafFor key i p) cc D a' → Droppable n D ((m : Int) + 1)) :
    Calls Try.prog 32 #[.agg #[.slice a n c], .int .i64 key, .int .i64 root, .int .i64 i, .slice ba 4 bc] w fun e w' => RetTL w.heap.size e w' n C key root i p cc ∧ Below w.heap.size w w' := by
  have b0 := below_two w (.cells #[.slice a n c] 24) (.cells #[.slice none 0 0] 24)
  have ks : CellsAt _ w.heap.size #[.slice a n c] 24 := (cellsAt_alloc w _ _).below (below_alloc _ (.cells #[.slice none 0 0] 24))
  have kr : CellsAt _ (w.heap.size + 1) #[.slice none 0 0] 24 := cellsAt_alloc2 w (.cells #[.slice a n c] 24) _ _
  have hsz : w.heap.size + 2 = ((w.alloc (.cells #[.slice a n c] 24)).alloc (.cells #[.slice none 0 0] 24)).heap.size := by simp
  have hp4 := hp.1
  have h04 := hid (leafFor_04 (key := key) (i := i) hp4)
  have hch : Hid (Checked n C root 3 i) := hid ⟨hR, 3, by omega, rfl, hr, by omega, by show (i : Int) < ((64 : Nat) : Int); omega⟩
  have hrd : root = 0 ∨ ∃ m : Nat, root = (m : Int) + 1 := by
    rcases hr with h0 | ⟨⟨h1, _, _⟩, _⟩
    · exact .inl h0
    · exact .inr ⟨(root - 1).toNat, by omega⟩
  replace hrd := hid hrd
  replace b0 := hid b0
  replace ks := hid ks
  replace kr := hid kr
  replace hsz := hid hsz
  replace h := hid h
  replace hp := hid hp
  replace hc := hid hc
  replace hd := hid hd
  replace hk := hid hk
  clear hR hr
  go_enter Try.func32, Try.ntmps32
  go_wp2_with fail
  generalize (w.alloc (.cells #[.slice a n c] 24)).alloc (.cells #[.slice none 0 0] 24) = w0 at *
  refine (isNoughts_any ba 4 bc p (fun _ => True) w0 (by omega) (hp.out.below b0.out)).mono ?_
  rintro e w1 ⟨⟨rfl, hz⟩ | ⟨rfl, hz⟩, rfl⟩
  · have hLf : Hid (NumsAt (fun _ => True) .u8 w1 none 0 (leafFor key i p)) := hid (by
      have e : leafFor key i p = [] := by unfold leafFor; rw [if_pos (four_zero hp4 hz)]
      rw [e]; exact numsAt_nil _ _ _ _)
    have s0 := ks.out.cell 0
    simp at s0
    replace hsz : Hid (w.heap.size + 2 ≤ w1.heap.size) := hid (Nat.le_of_eq hsz.out)
    clear hz hp
    go_wp2_with fail
    refine (treePutO_any a n c C root 3 i _ _ _ (leafFor key i p) cc _ (h.out.below b0.out) hLf.out (Nat.le_refl _) h1 hcm hc.out).mono ?_
    rintro e w3 ⟨hP, b3⟩
    have hg0 := hsz.out
    have hsz3 := b3.size
    replace kr := hid (kr.out.below b3)
    have b03 := Below.tr b0.out b3
    clear hLf s0 ks b0 hsz
    rcases hP with ⟨e', rfl, he, hfull⟩ | ⟨l, j, D, a', g, rfl, hl3, hij, hl, hj, _, _, _, hPut, hg, hOwn⟩
    · obtain ⟨rfl, hfu⟩ := hfull hch.out h04.out
      have bA := below_alloc w3 (.cells #[.slice none 0 0] 24)
      have krA := kr.out.below bA
      have r0 := krA.cell 0
      have r1 := krA.frozen 0
      have b04 := hid (Below.tr b03 bA)
      have hfu' : Hid (n ≤ usedTo C n + 3) := hid (by omega)
      clear hfull he bA krA b3 hfu b03
      go_wp2_with fail
      refine bodyPost_ret (v := .tuple #[.agg #[.slice none 0 0], .int .i64 0, .int .i64 8]) (by rw [results_cell_tmps rfl]; go_simp) rfl ⟨⟨none, 0, 0, 0, 8, rfl, .inl ⟨rfl, rfl, rfl, rfl, rfl, hfu'.out⟩⟩, b04.out.setCell (by simp) _⟩
    · obtain rfl : j = i := by omega
      obtain rfl : l = 3 := by omega
      have bA := below_alloc w3 (.cells #[.slice (some ⟨g, 0, none⟩) n n] 24)
      have kA := cellsAt_alloc w3 #[.slice (some ⟨g, 0, none⟩) n n] 24
      have hgl := hOwn.lt
      have hOA := hOwn.below bA
      have krA := kr.out.below bA
      have b04 := Below.tr b03 bA
      replace hPut := hid hPut
      clear hl3 hij hj hl bA hOwn b03 b3 hsz3
      rcases hrd.out with h0 | ⟨m, h0⟩
      · subst h0
        have r0 := krA.cell 0
        have r1 := krA.frozen 0
        have kk := Kept.setCell (g := w.heap.size + 1) (Kept.refl _ (w3.alloc (.cells #[.slice (some ⟨g, 0, none⟩) n n] 24))) (p := ⟨w.heap.size + 1, 0, none⟩) rfl (.slice (some ⟨g, 0, none⟩) n n)
        have hfin := hid (hOA.kept (by omega) kk)
        replace b04 := hid b04
        clear kA krA hOA kk
        go_wp2_with fail
        refine bodyPost_ret (v := .tuple #[.agg #[.slice (some ⟨g, 0, none⟩) n n], .int .i64 a', .int .i64 0]) (by rw [results_cell_tmps rfl]; go_simp) rfl ⟨⟨_, n, n, a', 0, rfl, .inr ⟨rfl, g, D, rfl, rfl, rfl, ⟨D, hPut.out, .inl ⟨rfl, rfl⟩⟩, by omega, hfin.out⟩⟩, b04.out.setCell (by simp) _⟩
      · subst h0
        have hm0 : (((m : Int) + 1) == 0) = false := by simp; omega
        have hP : OwnPtr (w3.alloc (.cells #[.slice (some ⟨g, 0, none⟩) n n] 24)) ⟨w3.heap.size, 0, none⟩ g n D := ⟨kA.lt, by show w3.heap.size ≠ g; omega, by simp, hOA⟩
        have hdr := hid (hd.out m D a' rfl hPut.out)
        replace hP := hid hP
        replace krA := hid krA
        replace b04 := hid b04
        clear hOA kA
        go_wp2_with fail
        generalize w3.alloc (.cells #[.slice (some ⟨g, 0, none⟩) n n] 24) = w4 at *
        refine (drop_any ⟨w3.heap.size, 0, none⟩ g n D ((m : Int) + 1) w4 hP.out).mono ?_
        rintro e w5 ⟨hD, hO⟩
        rcases hD with ⟨e', _, _, hno⟩ | ⟨rfl, _, E, hE, hRE, hFE⟩
        · exact absurd hdr.out hno
        have kr5 : CellsAt w5 (w.heap.size + 1) #[.slice none 0 0] 24 := (by unfold CellsAt; rw [hO.block _ krA.out.lt (by omega)]; exact krA.out)
        have r0 := kr5.cell 0
        have r1 := kr5.frozen 0
        have s5 := hE.cell
        simp at r0
        have kk := Kept.setCell (g := w.heap.size + 1) (Kept.refl _ w5) (p := ⟨w.heap.size + 1, 0, none⟩) rfl (.slice (some ⟨g, 0, none⟩) n n)
        have hfin := hid (hE.own.kept (by omega) kk)
        have b5 := hid (b04.out.trans (hO.below (B := w.heap.size) (by omega) (by have := b04.out.size; omega)))
        replace hRE := hid hRE
        replace hFE := hid hFE
        clear hO hE kk kr5
        go_wp2_with fail
        refine bodyPost_ret (v := .tuple #[.agg #[.slice (some ⟨g, 0, none⟩) n n], .int .i64 a', .int .i64 0]) (by rw [results_cell_tmps rfl]; go_simp) rfl ⟨⟨_, n, n, a', 0, rfl, .inr ⟨rfl, g, E, rfl, rfl, rfl, ⟨D, hPut.out, .inr ⟨m, rfl, hRE.out, hFE.out⟩⟩, by omega, hfin.out⟩⟩, b5.out.setCell (by simp) _⟩
  · have hne : Hid (p ≠ [0, 0, 0, 0]) := hid fun f => hz (by rw [f]; intro x hx; simp at hx; exact hx)
    clear hz
    go_wp2_with fail
    refine (seal_ok key _ ba 4 bc p w1 (sealPlace_keyB hk.out hi) (by omega) (hp.out.below b0.out).bytesAt).mono ?_
    rintro e w2 ⟨g2, rfl, hB2, b2⟩
    rw [sealPlace_eq i] at hB2
    have hLf : Hid (NumsAt (fun _ => True) .u8 w2 (some ⟨g2, 0, none⟩) 4 (leafFor key i p)) := hid (by
      have e : leafFor key i p = sealL key (sealPlace i) p := by unfold leafFor; rw [if_neg hne.out]
      rw [e]; exact hB2.nums)
    replace ks := hid (ks.out.below b2)
    replace kr := hid (kr.out.below b2)
    replace hsz : Hid (w.heap.size + 2 ≤ w2.heap.size) := hid (Nat.le_trans (Nat.le_of_eq hsz.out) b2.size)
    replace b0 := hid (Below.tr b0.out b2)
    have s0 := ks.out.cell 0
    simp at s0
    clear hB2 b2 hp hne
    go_wp2_with fail
    refine (treePutO_any a n c C root 3 i _ _ _ (leafFor key i p) cc _ (h.out.below b0.out) hLf.out (Nat.le_refl _) h1 hcm hc.out).mono ?_
    rintro e w3 ⟨hP, b3⟩
    have hg0 := hsz.out
    have hsz3 := b3.size
    replace kr := hid (kr.out.below b3)
    have b03 := Below.tr b0.out b3
    clear hLf s0 ks b0 hsz
    rcases hP with ⟨e', rfl, he, hfull⟩ | ⟨l, j, D, a', g, rfl, hl3, hij, hl, hj, _, _, _, hPut, hg, hOwn⟩
    · obtain ⟨rfl, hfu⟩ := hfull hch.out h04.out
      have bA := below_alloc w3 (.cells #[.slice none 0 0] 24)
      have krA := kr.out.below bA
      have r0 := krA.cell 0
      have r1 := krA.frozen 0
      have b04 := hid (Below.tr b03 bA)
      have hfu' : Hid (n ≤ usedTo C n + 3) := hid (by omega)
      clear hfull he bA krA b3 hfu b03
      go_wp2_with fail
      refine bodyPost_ret (v := .tuple #[.agg #[.slice none 0 0], .int .i64 0, .int .i64 8]) (by rw [results_cell_tmps rfl]; go_simp) rfl ⟨⟨none, 0, 0, 0, 8, rfl, .inl ⟨rfl, rfl, rfl, rfl, rfl, hfu'.out⟩⟩, b04.out.setCell (by simp) _⟩
    · obtain rfl : j = i := by omega
      obtain rfl : l = 3 := by omega
      have bA := below_alloc w3 (.cells #[.slice (some ⟨g, 0, none⟩) n n] 24)
      have kA := cellsAt_alloc w3 #[.slice (some ⟨g, 0, none⟩) n n] 24
      have hgl := hOwn.lt
      have hOA := hOwn.below bA
      have krA := kr.out.below bA
      have b04 := Below.tr b03 bA
      replace hPut := hid hPut
      clear hl3 hij hj hl bA hOwn b03 b3 hsz3
      rcases hrd.out with h0 | ⟨m, h0⟩
      · subst h0
        have r0 := krA.cell 0
        have r1 := krA.frozen 0
        have kk := Kept.setCell (g := w.heap.size + 1) (Kept.refl _ (w3.alloc (.cells #[.slice (some ⟨g, 0, none⟩) n n] 24))) (p := ⟨w.heap.size + 1, 0, none⟩) rfl (.slice (some ⟨g, 0, none⟩) n n)
        have hfin := hid (hOA.kept (by omega) kk)
        replace b04 := hid b04
        clear kA krA hOA kk
        go_wp2_with fail
        refine bodyPost_ret (v := .tuple #[.agg #[.slice (some ⟨g, 0, none⟩) n n], .int .i64 a', .int .i64 0]) (by rw [results_cell_tmps rfl]; go_simp) rfl ⟨⟨_, n, n, a', 0, rfl, .inr ⟨rfl, g, D, rfl, rfl, rfl, ⟨D, hPut.out, .inl ⟨rfl, rfl⟩⟩, by omega, hfin.out⟩⟩, b04.out.setCell (by simp) _⟩
      · subst h0
        have hm0 : (((m : Int) + 1) == 0) = false := by simp; omega
        have hP : OwnPtr (w3.alloc (.cells #[.slice (some ⟨g, 0, none⟩) n n] 24)) ⟨w3.heap.size, 0, none⟩ g n D := ⟨kA.lt, by show w3.heap.size ≠ g; omega, by simp, hOA⟩
        have hdr := hid (hd.out m D a' rfl hPut.out)
        replace hP := hid hP
        replace krA := hid krA
        replace b04 := hid b04
        clear hOA kA
        go_wp2_with fail
        generalize w3.alloc (.cells #[.slice (some ⟨g, 0, none⟩) n n] 24) = w4 at *
        refine (drop_any ⟨w3.heap.size, 0, none⟩ g n D ((m : Int) + 1) w4 hP.out).mono ?_
        rintro e w5 ⟨hD, hO⟩
        rcases hD with ⟨e', _, _, hno⟩ | ⟨rfl, _, E, hE, hRE, hFE⟩
        · exact absurd hdr.out hno
        have kr5 : CellsAt w5 (w.heap.size + 1) #[.slice none 0 0] 24 := (by unfold CellsAt; rw [hO.block _ krA.out.lt (by omega)]; exact krA.out)
        have r0 := kr5.cell 0
        have r1 := kr5.frozen 0
        have s5 := hE.cell
        simp at r0
        have kk := Kept.setCell (g := w.heap.size + 1) (Kept.refl _ w5) (p := ⟨w.heap.size + 1, 0, none⟩) rfl (.slice (some ⟨g, 0, none⟩) n n)
        have hfin := hid (hE.own.kept (by omega) kk)
        have b5 := hid (b04.out.trans (hO.below (B := w.heap.size) (by omega) (by have := b04.out.size; omega)))
        replace hRE := hid hRE
        replace hFE := hid hFE
        clear hO hE kk kr5
        go_wp2_with fail
        refine bodyPost_ret (v := .tuple #[.agg #[.slice (some ⟨g, 0, none⟩) n n], .int .i64 a', .int .i64 0]) (by rw [results_cell_tmps rfl]; go_simp) rfl ⟨⟨_, n, n, a', 0, rfl, .inr ⟨rfl, g, E, rfl, rfl, rfl, ⟨D, hPut.out, .inr ⟨m, rfl, hRE.out, hFE.out⟩⟩, by omega, hfin.out⟩⟩, b5.out.setCell (by simp) _⟩
end Go.Proofs.Ytaagnojdpedilad
