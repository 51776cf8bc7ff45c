/-
  Contract of file.Cut. Nothing here is trusted.
-/
import Derived.Test.YtaagnojdpediladFileI
set_option linter.unusedVariables false
namespace Go.Proofs.Ytaagnojdpedilad
open Go.RowKit

set_option maxHeartbeats 8000000 in
set_option maxRecDepth 100000 in
theorem fileCut_any (a : Option Addr) (n c : Nat) (B : Nat → Blk) (key root size to : Int) (cc : Int) (w : World) (h : StoreAt w a n B) (h1 : 64 ≤ cc) (hcm : cc ≤ 999936) (hc : ∀ k, k < n → (B k).refs ≤ cc) :
    Calls Try.prog 14 #[.agg #[.slice a n c], .int .i64 key, .agg #[.int .i64 root, .int .i64 size], .int .i64 to] w fun e w' =>
      RetW w.heap.size e w' n B key root size (0 ≤ to ∧ to ≤ 256) ((fileL key (leafAt B 3 root)).take to.toNat) cc ∧ Below w.heap.size w w' := by
  have b0 : Below w.heap.size w _ := ((below_two w (.cells #[.slice a n c] 24) (.cells #[.int .i64 root, .int .i64 size] 26)).alloc (by simp; omega) (.cells #[.slice none 0 0] 24)).alloc (by simp; omega) (.cells #[.int .i64 0, .int .i64 0] 26)
  have ks : CellsAt _ w.heap.size #[.slice a n c] 24 := (((cellsAt_alloc w _ _).below (below_alloc _ (.cells #[.int .i64 root, .int .i64 size] 26))).below (below_alloc _ (.cells #[.slice none 0 0] 24))).below (below_alloc _ (.cells #[.int .i64 0, .int .i64 0] 26))
  have kf : CellsAt _ (w.heap.size + 1) #[.int .i64 root, .int .i64 size] 26 := ((cellsAt_alloc2 w (.cells #[.slice a n c] 24) _ _).below (below_alloc _ (.cells #[.slice none 0 0] 24))).below (below_alloc _ (.cells #[.int .i64 0, .int .i64 0] 26))
  have hrc : RC w ((((w.alloc (.cells #[.slice a n c] 24)).alloc (.cells #[.int .i64 root, .int .i64 size] 26)).alloc (.cells #[.slice none 0 0] 24)).alloc (.cells #[.int .i64 0, .int .i64 0] 26)) := ⟨b0, by simp, (cellsAt_alloc3 w (.cells #[.slice a n c] 24) (.cells #[.int .i64 root, .int .i64 size] 26) _ _).below (below_alloc _ (.cells #[.int .i64 0, .int .i64 0] 26)), cellsAt_alloc4 w (.cells #[.slice a n c] 24) (.cells #[.int .i64 root, .int .i64 size] 26) (.cells #[.slice none 0 0] 24) _ _⟩
  replace ks := hid ks
  replace kf := hid kf
  replace hrc := hid hrc
  replace h := hid h
  replace hc := hid hc
  clear b0
  go_enter Try.func14, Try.ntmps14
  go_wp2_with fail
  generalize ((((w.alloc (.cells #[.slice a n c] 24)).alloc (.cells #[.int .i64 root, .int .i64 size] 26)).alloc (.cells #[.slice none 0 0] 24)).alloc (.cells #[.int .i64 0, .int .i64 0] 26)) = w0 at *
  refine (open_any a n c B key root size w0 (h.out.below hrc.out.bel)).mono ?_
  rintro e w1 ⟨hO, b1⟩
  replace hrc := hid (hrc.out.below b1)
  replace ks := hid (ks.out.below b1)
  replace kf := hid (kf.out.below b1)
  clear b1
  rcases hO with ⟨e', rfl, he, hno⟩ | ⟨g1, rfl, hok, hg1, hrow⟩
  · have he' : (e' == 0) = false := by simp [he]
    have q1 := hrc.out.r10.cell 0
    have q2 := hrc.out.r10.frozen 0
    have q3 := hrc.out.r11.cell 0
    have q4 := hrc.out.r11.frozen 0
    have q5 := hrc.out.r11.cell 1
    have q6 := hrc.out.r11.frozen 1
    simp at q1 q3 q5
    replace hno := hid hno
    go_wp2_with fail
    refine bodyPost_ret (v := .tuple #[.agg #[.slice none 0 0], .agg #[.int .i64 0, .int .i64 0], .int .i64 e']) (by rw [results_cells2 rfl]; go_simp) rfl ⟨⟨none, 0, 0, 0, 0, e', rfl, .inl ⟨rfl, rfl, rfl, rfl, rfl, he, fun f => absurd f hno.out⟩⟩, hrc.out.put3 none 0 0 0 0⟩
  have hN := nums_of_cells (Q := fun _ => True) trivial (fileL_bytes key (leafAt B 3 root)) hrow
  rw [fileL_length] at hN
  replace hN := hid hN
  replace hok := hid hok
  clear hrow
  by_cases hto : 0 ≤ to ∧ to ≤ 256
  case neg =>
    have q1 := hrc.out.r10.cell 0
    have q2 := hrc.out.r10.frozen 0
    have q3 := hrc.out.r11.cell 0
    have q4 := hrc.out.r11.frozen 0
    have q5 := hrc.out.r11.cell 1
    have q6 := hrc.out.r11.frozen 1
    simp at q1 q3 q5
    go_wp2_with fail
    refine (isSize_no to w1 hto).mono ?_
    rintro e w2 ⟨rfl, rfl⟩
    replace hto := hid hto
    go_wp2_with fail
    refine bodyPost_ret (v := .tuple #[.agg #[.slice none 0 0], .agg #[.int .i64 0, .int .i64 0], .int .i64 3]) (by rw [results_cells2 rfl]; go_simp) rfl ⟨⟨none, 0, 0, 0, 0, 3, rfl, .inl ⟨rfl, rfl, rfl, rfl, rfl, by omega, fun _ f => absurd f hto.out⟩⟩, hrc.out.put3 none 0 0 0 0⟩
  go_wp2_with fail
  refine (isSize_ok to w1 hto).mono ?_
  rintro e w2 ⟨rfl, rfl⟩
  obtain ⟨S, rfl⟩ : ∃ S : Nat, to = (S : Int) := ⟨to.toNat, by omega⟩
  have hS : S ≤ 256 := by omega
  have f0 := kf.out.cell 0
  have s0 := ks.out.cell 0
  simp at f0 s0
  have hTk := hN.out.takeN hS
  obtain ⟨N, hNd⟩ : ∃ N, N = (fileL key (leafAt B 3 root)).take S := ⟨_, rfl⟩
  rw [← hNd] at hTk
  have hg4 := hrc.out.sz
  replace hNd := hid hNd
  replace hTk := hid hTk
  replace hto := hid hto
  go_upto_region 6 with fail
  go_region_with (go_at_call 16; refine (turn_any a n c B key root g1 0 (fileL key (leafAt B 3 root)) _ S _ N cc _ ?_ hok.out.right hok.out.rooted hok.out.kb ?_ ?_ hS h1 hcm hc.out).mono ?_; exact (h.out.below hrc.out.bel).below (below_drew _ _); exact hN.out.below (below_drew _ _); exact hTk.out.below (below_drew _ _); rintro e w3 ⟨⟨y, yn, yc, ra, rs, e', rfl, hcase⟩, b3⟩; have hrc3 := hrc.out.below ((below_drew _ _).trans b3); have q1 := hrc3.r10.cell 0; have q2 := hrc3.r10.frozen 0; have q3 := hrc3.r11.cell 0; have q4 := hrc3.r11.frozen 0; have q5 := hrc3.r11.cell 1; have q6 := hrc3.r11.frozen 1; simp at q1 q3 q5; replace hrc3 := hid hrc3; replace hcase := hid hcase; replace b3 := hid b3)
  all_goals (
    have hfin : Hid (RetW w.heap.size (.returned (.tuple #[.agg #[.slice y yn yc], .agg #[.int .i64 ra, .int .i64 rs], .int .i64 e'])) (put3 w w3 y yn yc ra rs) n B key root size (0 ≤ (S : Int) ∧ (S : Int) ≤ 256) ((fileL key (leafAt B 3 root)).take S) cc) := hid ⟨y, yn, yc, ra, rs, e', rfl, by
      rw [← hNd.out]
      rcases hcase.out with ⟨h2, h3, h4, h5, h6, h7, h8⟩ | ⟨h2, g, C, h3, h4, h5, h6, h7, h8, h9⟩
      · exact .inl ⟨h2, h3, h4, h5, h6, by omega, fun _ _ => ⟨h7, h8⟩⟩
      · have h7' : w2.heap.size ≤ g := h7
        exact .inr ⟨h2, hok.out, hto.out, g, C, h3, h4, h5, h6, by omega, h8.put3 (by omega) _ _ _ _ _, h9⟩⟩
    clear hcase f0 s0
    go_wp2_with fail
    refine bodyPost_ret (v := .tuple #[.agg #[.slice y yn yc], .agg #[.int .i64 ra, .int .i64 rs], .int .i64 e']) (by rw [results_cells2 rfl]; go_simp) rfl ⟨hfin.out, hrc3.out.put3 _ _ _ _ _⟩)
end Go.Proofs.Ytaagnojdpedilad
