/-
  Contracts of file.Write, file.Cut. Nothing here is trusted.
-/
import Derived.Test.YtaagnojdpediladFileH
set_option linter.unusedVariables false
namespace Go.Proofs.Ytaagnojdpedilad
open Go.RowKit

/-- what Write and Cut answer: an error, or a file of the bytes N, noughts behind -/
def RetW (base : Nat) (e : Ending) (w : World) (n : Nat) (B : Nat → Blk) (key root size : Int) (ok : Prop) (N : List Int) (cc : Int) : Prop :=
  ∃ (x : Option Addr) (ln lc : Nat) (ra rs e' : Int), e = .returned (.tuple #[.agg #[.slice x ln lc], .agg #[.int .i64 ra, .int .i64 rs], .int .i64 e']) ∧
    ((x = none ∧ ln = 0 ∧ lc = 0 ∧ ra = 0 ∧ rs = 0 ∧ e' ≠ 0 ∧ (FileOk n B key root size → ok → e' = 8 ∧ n < usedTo B n + 4 * chg (fileL key (leafAt B 3 root)) (padTo N) 64)) ∨
     (e' = 0 ∧ FileOk n B key root size ∧ ok ∧ ∃ (g : Nat) (C : Nat → Blk), x = some ⟨g, 0, none⟩ ∧ ln = n ∧ lc = n ∧ rs = (N.length : Int) ∧ base ≤ g ∧ Own w g n C ∧ TurnAt n B C key root (fileL key (leafAt B 3 root)) (padTo N) 64 ra cc))

/-- the two cells of the results -/
structure RC (W wr : World) : Prop where
  bel : Below W.heap.size W wr
  sz : W.heap.size + 4 ≤ wr.heap.size
  r10 : CellsAt wr (W.heap.size + 1 + 1) #[.slice none 0 0] 24
  r11 : CellsAt wr (W.heap.size + 1 + 1 + 1) #[.int .i64 0, .int .i64 0] 26
theorem RC.below {W wr w' : World} (h : RC W wr) (b : Below wr.heap.size wr w') : RC W w' := ⟨Below.tr h.bel b, Nat.le_trans h.sz b.size, h.r10.below b, h.r11.below b⟩
/-- the world behind the stores into them -/
abbrev put3 (W wr : World) (x : Option Addr) (ln lc : Nat) (ra rs : Int) : World := ((wr.setCell ⟨W.heap.size + 1 + 1, 0, none⟩ (.slice x ln lc)).setCell ⟨W.heap.size + 1 + 1 + 1, 0, none⟩ (.int .i64 ra)).setCell ⟨W.heap.size + 1 + 1 + 1, 1, none⟩ (.int .i64 rs)
theorem RC.put3 {W wr : World} (h : RC W wr) (x : Option Addr) (ln lc : Nat) (ra rs : Int) : Below W.heap.size W (put3 W wr x ln lc ra rs) :=
  ((h.bel.setCell (show W.heap.size ≤ W.heap.size + 1 + 1 by omega) _).setCell (show W.heap.size ≤ W.heap.size + 1 + 1 + 1 by omega) _).setCell (show W.heap.size ≤ W.heap.size + 1 + 1 + 1 by omega) _
theorem Own.put3 {W wr : World} {g n : Nat} {C : Nat → Blk} (h : Own wr g n C) (hg : W.heap.size + 4 ≤ g) (x : Option Addr) (ln lc : Nat) (ra rs : Int) : Own (put3 W wr x ln lc ra rs) g n C :=
  ((h.kept (q := W.heap.size + 1 + 1) (by omega) (Kept.setCell (Kept.refl _ wr) (p := ⟨W.heap.size + 1 + 1, 0, none⟩) rfl _)).kept (q := W.heap.size + 1 + 1 + 1) (by omega) (Kept.setCell (Kept.refl _ _) (p := ⟨W.heap.size + 1 + 1 + 1, 0, none⟩) rfl _)).kept (q := W.heap.size + 1 + 1 + 1) (by omega) (Kept.setCell (Kept.refl _ _) (p := ⟨W.heap.size + 1 + 1 + 1, 1, none⟩) rfl _)

theorem NumsAt.takeN {Q : Nat → Prop} {k : IntKind} {w : World} {b off n : Nat} {l : List Int} (h : NumsAt Q k w (some ⟨b, off, none⟩) n l) {m : Nat} (hm : m ≤ n) : NumsAt Q k w (some ⟨b, off, none⟩) m (l.take m) := by
  have := h.piece (lo := 0) (m := m) (by omega)
  rwa [Nat.add_zero, List.drop_zero] at this

set_option maxHeartbeats 8000000 in
set_option maxRecDepth 100000 in
theorem fileWrite_any (a : Option Addr) (n c : Nat) (B : Nat → Blk) (key root size at' : Int) (ba : Option Addr) (bn bc : Nat) (b : List Int) (cc : Int) (w : World) (h : StoreAt w a n B) (hb : NumsAt (fun _ => True) .u8 w ba bn b) (h1 : 64 ≤ cc) (hcm : cc ≤ 999936) (hc : ∀ k, k < n → (B k).refs ≤ cc) :
    Calls Try.prog 7 #[.agg #[.slice a n c], .int .i64 key, .agg #[.int .i64 root, .int .i64 size], .int .i64 at', .slice ba bn bc] w fun e w' =>
      RetW w.heap.size e w' n B key root size (0 ≤ at' ∧ at' + (b.length : Int) ≤ 256) (overL ((fileL key (leafAt B 3 root)).take size.toNat) at'.toNat b) cc ∧ Below w.heap.size w w' := by
  have b0 : Below w.heap.size w _ := ((below_two w (.cells #[.slice a n c] 24) (.cells #[.int .i64 root, .int .i64 size] 26)).alloc (by simp; omega) (.cells #[.slice none 0 0] 24)).alloc (by simp; omega) (.cells #[.int .i64 0, .int .i64 0] 26)
  have ks : CellsAt _ w.heap.size #[.slice a n c] 24 := (((cellsAt_alloc w _ _).below (below_alloc _ (.cells #[.int .i64 root, .int .i64 size] 26))).below (below_alloc _ (.cells #[.slice none 0 0] 24))).below (below_alloc _ (.cells #[.int .i64 0, .int .i64 0] 26))
  have kf : CellsAt _ (w.heap.size + 1) #[.int .i64 root, .int .i64 size] 26 := ((cellsAt_alloc2 w (.cells #[.slice a n c] 24) _ _).below (below_alloc _ (.cells #[.slice none 0 0] 24))).below (below_alloc _ (.cells #[.int .i64 0, .int .i64 0] 26))
  have hrc : RC w ((((w.alloc (.cells #[.slice a n c] 24)).alloc (.cells #[.int .i64 root, .int .i64 size] 26)).alloc (.cells #[.slice none 0 0] 24)).alloc (.cells #[.int .i64 0, .int .i64 0] 26)) := ⟨b0, by simp, (cellsAt_alloc3 w (.cells #[.slice a n c] 24) (.cells #[.int .i64 root, .int .i64 size] 26) _ _).below (below_alloc _ (.cells #[.int .i64 0, .int .i64 0] 26)), cellsAt_alloc4 w (.cells #[.slice a n c] 24) (.cells #[.int .i64 root, .int .i64 size] 26) (.cells #[.slice none 0 0] 24) _ _⟩
  replace ks := hid ks
  replace kf := hid kf
  replace hrc := hid hrc
  replace h := hid h
  replace hb := hid hb
  replace hc := hid hc
  clear b0
  go_enter Try.func7, Try.ntmps7
  go_wp2_with fail
  generalize ((((w.alloc (.cells #[.slice a n c] 24)).alloc (.cells #[.int .i64 root, .int .i64 size] 26)).alloc (.cells #[.slice none 0 0] 24)).alloc (.cells #[.int .i64 0, .int .i64 0] 26)) = w0 at *
  refine (open_any a n c B key root size w0 (h.out.below hrc.out.bel)).mono ?_
  rintro e w1 ⟨hO, b1⟩
  replace hrc := hid (hrc.out.below b1)
  replace ks := hid (ks.out.below b1)
  replace kf := hid (kf.out.below b1)
  clear b1
  rcases hO with ⟨e', rfl, he, hno⟩ | ⟨g1, rfl, hok, hg1, hrow⟩
  · have he' : (e' == 0) = false := by simp [he]
    have q1 := hrc.out.r10.cell 0
    have q2 := hrc.out.r10.frozen 0
    have q3 := hrc.out.r11.cell 0
    have q4 := hrc.out.r11.frozen 0
    have q5 := hrc.out.r11.cell 1
    have q6 := hrc.out.r11.frozen 1
    simp at q1 q3 q5
    replace hno := hid hno
    go_wp2_with fail
    refine bodyPost_ret (v := .tuple #[.agg #[.slice none 0 0], .agg #[.int .i64 0, .int .i64 0], .int .i64 e']) (by rw [results_cells2 rfl]; go_simp) rfl ⟨⟨none, 0, 0, 0, 0, e', rfl, .inl ⟨rfl, rfl, rfl, rfl, rfl, he, fun f => absurd f hno.out⟩⟩, hrc.out.put3 none 0 0 0 0⟩
  have hs := hok.sb
  obtain ⟨sz, rfl⟩ : ∃ sz : Nat, size = (sz : Int) := ⟨size.toNat, by omega⟩
  have hN := nums_of_cells (Q := fun _ => True) trivial (fileL_bytes key (leafAt B 3 root)) hrow
  rw [fileL_length] at hN
  have hsz : sz ≤ 256 := by omega
  have f0 := kf.out.cell 0
  have f1 := kf.out.cell 1
  have s0 := ks.out.cell 0
  simp at f0 f1 s0
  have hT := hid (hN.takeN hsz)
  replace hN := hid hN
  replace hok := hid hok
  clear hrow hs
  go_wp2_with fail
  refine (over_any (some ⟨g1, 0, none⟩) sz 256 _ at' ba bn bc b w1 hsz hT.out (hb.out.below hrc.out.bel)).mono ?_
  rintro e w2 ⟨hOv, b2⟩
  replace hrc := hid (hrc.out.below b2)
  replace ks := hid (ks.out.below b2)
  replace kf := hid (kf.out.below b2)
  replace hN := hid (hN.out.below b2)
  clear b2 f0 f1 s0 hT
  have q1 := hrc.out.r10.cell 0
  have q2 := hrc.out.r10.frozen 0
  have q3 := hrc.out.r11.cell 0
  have q4 := hrc.out.r11.frozen 0
  have q5 := hrc.out.r11.cell 1
  have q6 := hrc.out.r11.frozen 1
  have f0 := kf.out.cell 0
  have f1 := kf.out.cell 1
  have s0 := ks.out.cell 0
  simp at q1 q3 q5 f0 f1 s0
  rcases hOv with ⟨e', rfl, he, hno⟩ | ⟨x, ln, lc, A, rfl, rfl, hA, hlc, hNow⟩
  · have he' : (e' == 0) = false := by simp [he]
    replace hno := hid hno
    go_wp2_with fail
    refine bodyPost_ret (v := .tuple #[.agg #[.slice none 0 0], .agg #[.int .i64 0, .int .i64 0], .int .i64 e']) (by rw [results_cells2 rfl]; go_simp) rfl ⟨⟨none, 0, 0, 0, 0, e', rfl, .inl ⟨rfl, rfl, rfl, rfl, rfl, he, fun _ f => absurd f hno.out⟩⟩, hrc.out.put3 none 0 0 0 0⟩
  have hlen := hNow.1
  have hln : ln ≤ 256 := by
    rw [← hlen, overL_length, List.length_take, fileL_length]
    split <;> omega
  have hNow' := hid (hNow.weaken (R := fun _ => True) (fun _ _ _ => trivial))
  have hA2 : Hid (0 ≤ (A : Int) ∧ (A : Int) + (b.length : Int) ≤ 256) := hid (by omega)
  replace hlen := hid hlen
  clear hNow hA q1 q2 q3 q4 q5 q6
  obtain ⟨N, hNd⟩ : ∃ N, N = overL ((fileL key (leafAt B 3 root)).take sz) A b := ⟨_, rfl⟩
  rw [← hNd] at hlen hNow'
  replace hNd := hid hNd
  go_wp2_with fail
  refine (turn_any a n c B key root g1 0 (fileL key (leafAt B 3 root)) x ln lc N cc w2 (h.out.below hrc.out.bel) hok.out.right hok.out.rooted hok.out.kb hN.out hNow'.out hln h1 hcm hc.out).mono ?_
  rintro e w3 ⟨⟨y, yn, yc, ra, rs, e', rfl, hcase⟩, b3⟩
  have hg4 := hrc.out.sz
  replace hrc := hid (hrc.out.below b3)
  have q1 := hrc.out.r10.cell 0
  have q2 := hrc.out.r10.frozen 0
  have q3 := hrc.out.r11.cell 0
  have q4 := hrc.out.r11.frozen 0
  have q5 := hrc.out.r11.cell 1
  have q6 := hrc.out.r11.frozen 1
  simp at q1 q3 q5
  have hfin : Hid (RetW w.heap.size (.returned (.tuple #[.agg #[.slice y yn yc], .agg #[.int .i64 ra, .int .i64 rs], .int .i64 e'])) (put3 w w3 y yn yc ra rs) n B key root sz (0 ≤ (A : Int) ∧ (A : Int) + (b.length : Int) ≤ 256) (overL ((fileL key (leafAt B 3 root)).take sz) A b) cc) := hid ⟨y, yn, yc, ra, rs, e', rfl, by
    rw [← hNd.out]
    rcases hcase with ⟨h2, h3, h4, h5, h6, h7, h8⟩ | ⟨h2, g, C, h3, h4, h5, h6, h7, h8, h9⟩
    · exact .inl ⟨h2, h3, h4, h5, h6, by omega, fun _ _ => ⟨h7, h8⟩⟩
    · exact .inr ⟨h2, hok.out, hA2.out, g, C, h3, h4, h5, h6, by omega, h8.put3 (by omega) _ _ _ _ _, h9⟩⟩
  clear hcase f0 f1 s0 b3
  go_wp2_with fail
  refine bodyPost_ret (v := .tuple #[.agg #[.slice y yn yc], .agg #[.int .i64 ra, .int .i64 rs], .int .i64 e']) (by rw [results_cells2 rfl]; go_simp) rfl ⟨hfin.out, hrc.out.put3 _ _ _ _ _⟩
end Go.Proofs.Ytaagnojdpedilad
