/-
  FileI, FileJ, FileK, OpenD in one text. Nothing here is trusted.
-/
import Derived.Test.YtihkljfcplfldaaGreatPart25
import Derived.Lib.SmallJoins
import Derived.Lib.SlBytesConst
import Derived.Test.YtihkljfcplfldaaGreatPart40
import Derived.Test.YtihkljfcplfldaaGreatPart35
set_option linter.unusedVariables false
namespace Go.Proofs.YtihkljfcplfldaaGreat
open Go.RowKit

/-- what Write and Cut answer: an error, or a file of the bytes N, noughts behind -/
def RetW (base : Nat) (e : Ending) (w : World) (n : Nat) (B : Nat → Blk) (key root size : Int) (ok : Prop) (N : List Int) (cc : Int) : Prop :=
  ∃ (x : Option Addr) (ln lc : Nat) (ra rs e' : Int), e = .returned (.tuple #[.agg #[.slice x ln lc], .agg #[.int .i64 ra, .int .i64 rs], .int .i64 e']) ∧
    ((x = none ∧ ln = 0 ∧ lc = 0 ∧ ra = 0 ∧ rs = 0 ∧ e' ≠ 0 ∧ (FileOk n B key root size → ok → e' = 8 ∧ n < usedTo B n + 4 * chg (fileL key (leafAt B 3 root)) (padTo N) 64)) ∨
     (e' = 0 ∧ FileOk n B key root size ∧ ok ∧ ∃ (g : Nat) (C : Nat → Blk), x = some ⟨g, 0, none⟩ ∧ ln = n ∧ lc = n ∧ rs = (N.length : Int) ∧ base ≤ g ∧ Own w g n C ∧ TurnAt n B C key root (fileL key (leafAt B 3 root)) (padTo N) 64 ra cc))

/-- the two cells of the results -/
structure RC (W wr : World) : Prop where
  bel : Below W.heap.size W wr
  sz : W.heap.size + 4 ≤ wr.heap.size
  r10 : CellsAt wr (W.heap.size + 1 + 1) #[.slice none 0 0] 24
  r11 : CellsAt wr (W.heap.size + 1 + 1 + 1) #[.int .i64 0, .int .i64 0] 83
theorem RC.below {W wr w' : World} (h : RC W wr) (b : Below wr.heap.size wr w') : RC W w' := ⟨Below.tr h.bel b, Nat.le_trans h.sz b.size, h.r10.below b, h.r11.below b⟩
/-- the world behind the stores into them -/
abbrev put3 (W wr : World) (x : Option Addr) (ln lc : Nat) (ra rs : Int) : World := ((wr.setCell ⟨W.heap.size + 1 + 1, 0, none⟩ (.slice x ln lc)).setCell ⟨W.heap.size + 1 + 1 + 1, 0, none⟩ (.int .i64 ra)).setCell ⟨W.heap.size + 1 + 1 + 1, 1, none⟩ (.int .i64 rs)
theorem RC.put3 {W wr : World} (h : RC W wr) (x : Option Addr) (ln lc : Nat) (ra rs : Int) : Below W.heap.size W (put3 W wr x ln lc ra rs) :=
  ((h.bel.setCell (show W.heap.size ≤ W.heap.size + 1 + 1 by omega) _).setCell (show W.heap.size ≤ W.heap.size + 1 + 1 + 1 by omega) _).setCell (show W.heap.size ≤ W.heap.size + 1 + 1 + 1 by omega) _
theorem Own.put3 {W wr : World} {g n : Nat} {C : Nat → Blk} (h : Own wr g n C) (hg : W.heap.size + 4 ≤ g) (x : Option Addr) (ln lc : Nat) (ra rs : Int) : Own (put3 W wr x ln lc ra rs) g n C :=
  ((h.kept (q := W.heap.size + 1 + 1) (by omega) (Kept.setCell (Kept.refl _ wr) (p := ⟨W.heap.size + 1 + 1, 0, none⟩) rfl _)).kept (q := W.heap.size + 1 + 1 + 1) (by omega) (Kept.setCell (Kept.refl _ _) (p := ⟨W.heap.size + 1 + 1 + 1, 0, none⟩) rfl _)).kept (q := W.heap.size + 1 + 1 + 1) (by omega) (Kept.setCell (Kept.refl _ _) (p := ⟨W.heap.size + 1 + 1 + 1, 1, none⟩) rfl _)

theorem NumsAt.takeN {Q : Nat → Prop} {k : IntKind} {w : World} {b off n : Nat} {l : List Int} (h : NumsAt Q k w (some ⟨b, off, none⟩) n l) {m : Nat} (hm : m ≤ n) : NumsAt Q k w (some ⟨b, off, none⟩) m (l.take m) := by
  have := h.piece (lo := 0) (m := m) (by omega)
  rwa [Nat.add_zero, List.drop_zero] at this

set_option maxHeartbeats 8000000 in
set_option maxRecDepth 100000 in
theorem fileWrite_any (a : Option Addr) (n c : Nat) (B : Nat → Blk) (key root size at' : Int) (ba : Option Addr) (bn bc : Nat) (b : List Int) (cc : Int) (w : World) (h : StoreAt w a n B) (hb : NumsAt (fun _ => True) .u8 w ba bn b) (h1 : 64 ≤ cc) (hcm : cc ≤ 999936) (hc : ∀ k, k < n → (B k).refs ≤ cc) :
    Calls Tryz.prog 147 #[.agg #[.slice a n c], .int .i64 key, .agg #[.int .i64 root, .int .i64 size], .int .i64 at', .slice ba bn bc] w fun e w' =>
      RetW w.heap.size e w' n B key root size (0 ≤ at' ∧ at' + (b.length : Int) ≤ 256) (overL ((fileL key (leafAt B 3 root)).take size.toNat) at'.toNat b) cc ∧ Below w.heap.size w w' := by
  have b0 : Below w.heap.size w _ := ((below_two w (.cells #[.slice a n c] 24) (.cells #[.int .i64 root, .int .i64 size] 83)).alloc (by simp; omega) (.cells #[.slice none 0 0] 24)).alloc (by simp; omega) (.cells #[.int .i64 0, .int .i64 0] 83)
  have ks : CellsAt _ w.heap.size #[.slice a n c] 24 := (((cellsAt_alloc w _ _).below (below_alloc _ (.cells #[.int .i64 root, .int .i64 size] 83))).below (below_alloc _ (.cells #[.slice none 0 0] 24))).below (below_alloc _ (.cells #[.int .i64 0, .int .i64 0] 83))
  have kf : CellsAt _ (w.heap.size + 1) #[.int .i64 root, .int .i64 size] 83 := ((cellsAt_alloc2 w (.cells #[.slice a n c] 24) _ _).below (below_alloc _ (.cells #[.slice none 0 0] 24))).below (below_alloc _ (.cells #[.int .i64 0, .int .i64 0] 83))
  have hrc : RC w ((((w.alloc (.cells #[.slice a n c] 24)).alloc (.cells #[.int .i64 root, .int .i64 size] 83)).alloc (.cells #[.slice none 0 0] 24)).alloc (.cells #[.int .i64 0, .int .i64 0] 83)) := ⟨b0, by simp, (cellsAt_alloc3 w (.cells #[.slice a n c] 24) (.cells #[.int .i64 root, .int .i64 size] 83) _ _).below (below_alloc _ (.cells #[.int .i64 0, .int .i64 0] 83)), cellsAt_alloc4 w (.cells #[.slice a n c] 24) (.cells #[.int .i64 root, .int .i64 size] 83) (.cells #[.slice none 0 0] 24) _ _⟩
  replace ks := hid ks
  replace kf := hid kf
  replace hrc := hid hrc
  replace h := hid h
  replace hb := hid hb
  replace hc := hid hc
  clear b0
  go_enter Tryz.func147, Tryz.ntmps147
  go_wp2_with fail
  generalize ((((w.alloc (.cells #[.slice a n c] 24)).alloc (.cells #[.int .i64 root, .int .i64 size] 83)).alloc (.cells #[.slice none 0 0] 24)).alloc (.cells #[.int .i64 0, .int .i64 0] 83)) = w0 at *
  refine (open_any a n c B key root size w0 (h.out.below hrc.out.bel)).mono ?_
  rintro e w1 ⟨hO, b1⟩
  replace hrc := hid (hrc.out.below b1)
  replace ks := hid (ks.out.below b1)
  replace kf := hid (kf.out.below b1)
  clear b1
  rcases hO with ⟨e', rfl, he, hno⟩ | ⟨g1, rfl, hok, hg1, hrow⟩
  · have he' : (e' == 0) = false := by simp [he]
    have q1 := hrc.out.r10.cell 0
    have q2 := hrc.out.r10.frozen 0
    have q3 := hrc.out.r11.cell 0
    have q4 := hrc.out.r11.frozen 0
    have q5 := hrc.out.r11.cell 1
    have q6 := hrc.out.r11.frozen 1
    simp at q1 q3 q5
    replace hno := hid hno
    go_wp2_with fail
    refine bodyPost_ret (v := .tuple #[.agg #[.slice none 0 0], .agg #[.int .i64 0, .int .i64 0], .int .i64 e']) (by rw [results_cells2 rfl]; go_simp) rfl ⟨⟨none, 0, 0, 0, 0, e', rfl, .inl ⟨rfl, rfl, rfl, rfl, rfl, he, fun f => absurd f hno.out⟩⟩, hrc.out.put3 none 0 0 0 0⟩
  have hs := hok.sb
  obtain ⟨sz, rfl⟩ : ∃ sz : Nat, size = (sz : Int) := ⟨size.toNat, by omega⟩
  have hN := nums_of_cells (Q := fun _ => True) trivial (fileL_bytes key (leafAt B 3 root)) hrow
  rw [fileL_length] at hN
  have hsz : sz ≤ 256 := by omega
  have f0 := kf.out.cell 0
  have f1 := kf.out.cell 1
  have s0 := ks.out.cell 0
  simp at f0 f1 s0
  have hT := hid (hN.takeN hsz)
  replace hN := hid hN
  replace hok := hid hok
  clear hrow hs
  go_wp2_with fail
  refine (over_any (some ⟨g1, 0, none⟩) sz 256 _ at' ba bn bc b w1 hsz hT.out (hb.out.below hrc.out.bel)).mono ?_
  rintro e w2 ⟨hOv, b2⟩
  replace hrc := hid (hrc.out.below b2)
  replace ks := hid (ks.out.below b2)
  replace kf := hid (kf.out.below b2)
  replace hN := hid (hN.out.below b2)
  clear b2 f0 f1 s0 hT
  have q1 := hrc.out.r10.cell 0
  have q2 := hrc.out.r10.frozen 0
  have q3 := hrc.out.r11.cell 0
  have q4 := hrc.out.r11.frozen 0
  have q5 := hrc.out.r11.cell 1
  have q6 := hrc.out.r11.frozen 1
  have f0 := kf.out.cell 0
  have f1 := kf.out.cell 1
  have s0 := ks.out.cell 0
  simp at q1 q3 q5 f0 f1 s0
  rcases hOv with ⟨e', rfl, he, hno⟩ | ⟨x, ln, lc, A, rfl, rfl, hA, hlc, hNow⟩
  · have he' : (e' == 0) = false := by simp [he]
    replace hno := hid hno
    go_wp2_with fail
    refine bodyPost_ret (v := .tuple #[.agg #[.slice none 0 0], .agg #[.int .i64 0, .int .i64 0], .int .i64 e']) (by rw [results_cells2 rfl]; go_simp) rfl ⟨⟨none, 0, 0, 0, 0, e', rfl, .inl ⟨rfl, rfl, rfl, rfl, rfl, he, fun _ f => absurd f hno.out⟩⟩, hrc.out.put3 none 0 0 0 0⟩
  have hlen := hNow.1
  have hln : ln ≤ 256 := by
    rw [← hlen, overL_length, List.length_take, fileL_length]
    split <;> omega
  have hNow' := hid (hNow.weaken (R := fun _ => True) (fun _ _ _ => trivial))
  have hA2 : Hid (0 ≤ (A : Int) ∧ (A : Int) + (b.length : Int) ≤ 256) := hid (by omega)
  replace hlen := hid hlen
  clear hNow hA q1 q2 q3 q4 q5 q6
  obtain ⟨N, hNd⟩ : ∃ N, N = overL ((fileL key (leafAt B 3 root)).take sz) A b := ⟨_, rfl⟩
  rw [← hNd] at hlen hNow'
  replace hNd := hid hNd
  go_wp2_with fail
  refine (turn_any a n c B key root g1 0 (fileL key (leafAt B 3 root)) x ln lc N cc w2 (h.out.below hrc.out.bel) hok.out.right hok.out.rooted hok.out.kb hN.out hNow'.out hln h1 hcm hc.out).mono ?_
  rintro e w3 ⟨⟨y, yn, yc, ra, rs, e', rfl, hcase⟩, b3⟩
  have hg4 := hrc.out.sz
  replace hrc := hid (hrc.out.below b3)
  have q1 := hrc.out.r10.cell 0
  have q2 := hrc.out.r10.frozen 0
  have q3 := hrc.out.r11.cell 0
  have q4 := hrc.out.r11.frozen 0
  have q5 := hrc.out.r11.cell 1
  have q6 := hrc.out.r11.frozen 1
  simp at q1 q3 q5
  have hfin : Hid (RetW w.heap.size (.returned (.tuple #[.agg #[.slice y yn yc], .agg #[.int .i64 ra, .int .i64 rs], .int .i64 e'])) (put3 w w3 y yn yc ra rs) n B key root sz (0 ≤ (A : Int) ∧ (A : Int) + (b.length : Int) ≤ 256) (overL ((fileL key (leafAt B 3 root)).take sz) A b) cc) := hid ⟨y, yn, yc, ra, rs, e', rfl, by
    rw [← hNd.out]
    rcases hcase with ⟨h2, h3, h4, h5, h6, h7, h8⟩ | ⟨h2, g, C, h3, h4, h5, h6, h7, h8, h9⟩
    · exact .inl ⟨h2, h3, h4, h5, h6, by omega, fun _ _ => ⟨h7, h8⟩⟩
    · exact .inr ⟨h2, hok.out, hA2.out, g, C, h3, h4, h5, h6, by omega, h8.put3 (by omega) _ _ _ _ _, h9⟩⟩
  clear hcase f0 f1 s0 b3
  go_wp2_with fail
  refine bodyPost_ret (v := .tuple #[.agg #[.slice y yn yc], .agg #[.int .i64 ra, .int .i64 rs], .int .i64 e']) (by rw [results_cells2 rfl]; go_simp) rfl ⟨hfin.out, hrc.out.put3 _ _ _ _ _⟩
end Go.Proofs.YtihkljfcplfldaaGreat

namespace Go.Proofs.YtihkljfcplfldaaGreat
open Go.RowKit

set_option maxHeartbeats 8000000 in
set_option maxRecDepth 100000 in
theorem fileCut_any (a : Option Addr) (n c : Nat) (B : Nat → Blk) (key root size to : Int) (cc : Int) (w : World) (h : StoreAt w a n B) (h1 : 64 ≤ cc) (hcm : cc ≤ 999936) (hc : ∀ k, k < n → (B k).refs ≤ cc) :
    Calls Tryz.prog 149 #[.agg #[.slice a n c], .int .i64 key, .agg #[.int .i64 root, .int .i64 size], .int .i64 to] w fun e w' =>
      RetW w.heap.size e w' n B key root size (0 ≤ to ∧ to ≤ 256) ((fileL key (leafAt B 3 root)).take to.toNat) cc ∧ Below w.heap.size w w' := by
  have b0 : Below w.heap.size w _ := ((below_two w (.cells #[.slice a n c] 24) (.cells #[.int .i64 root, .int .i64 size] 83)).alloc (by simp; omega) (.cells #[.slice none 0 0] 24)).alloc (by simp; omega) (.cells #[.int .i64 0, .int .i64 0] 83)
  have ks : CellsAt _ w.heap.size #[.slice a n c] 24 := (((cellsAt_alloc w _ _).below (below_alloc _ (.cells #[.int .i64 root, .int .i64 size] 83))).below (below_alloc _ (.cells #[.slice none 0 0] 24))).below (below_alloc _ (.cells #[.int .i64 0, .int .i64 0] 83))
  have kf : CellsAt _ (w.heap.size + 1) #[.int .i64 root, .int .i64 size] 83 := ((cellsAt_alloc2 w (.cells #[.slice a n c] 24) _ _).below (below_alloc _ (.cells #[.slice none 0 0] 24))).below (below_alloc _ (.cells #[.int .i64 0, .int .i64 0] 83))
  have hrc : RC w ((((w.alloc (.cells #[.slice a n c] 24)).alloc (.cells #[.int .i64 root, .int .i64 size] 83)).alloc (.cells #[.slice none 0 0] 24)).alloc (.cells #[.int .i64 0, .int .i64 0] 83)) := ⟨b0, by simp, (cellsAt_alloc3 w (.cells #[.slice a n c] 24) (.cells #[.int .i64 root, .int .i64 size] 83) _ _).below (below_alloc _ (.cells #[.int .i64 0, .int .i64 0] 83)), cellsAt_alloc4 w (.cells #[.slice a n c] 24) (.cells #[.int .i64 root, .int .i64 size] 83) (.cells #[.slice none 0 0] 24) _ _⟩
  replace ks := hid ks
  replace kf := hid kf
  replace hrc := hid hrc
  replace h := hid h
  replace hc := hid hc
  clear b0
  go_enter Tryz.func149, Tryz.ntmps149
  go_wp2_with fail
  generalize ((((w.alloc (.cells #[.slice a n c] 24)).alloc (.cells #[.int .i64 root, .int .i64 size] 83)).alloc (.cells #[.slice none 0 0] 24)).alloc (.cells #[.int .i64 0, .int .i64 0] 83)) = w0 at *
  refine (open_any a n c B key root size w0 (h.out.below hrc.out.bel)).mono ?_
  rintro e w1 ⟨hO, b1⟩
  replace hrc := hid (hrc.out.below b1)
  replace ks := hid (ks.out.below b1)
  replace kf := hid (kf.out.below b1)
  clear b1
  rcases hO with ⟨e', rfl, he, hno⟩ | ⟨g1, rfl, hok, hg1, hrow⟩
  · have he' : (e' == 0) = false := by simp [he]
    have q1 := hrc.out.r10.cell 0
    have q2 := hrc.out.r10.frozen 0
    have q3 := hrc.out.r11.cell 0
    have q4 := hrc.out.r11.frozen 0
    have q5 := hrc.out.r11.cell 1
    have q6 := hrc.out.r11.frozen 1
    simp at q1 q3 q5
    replace hno := hid hno
    go_wp2_with fail
    refine bodyPost_ret (v := .tuple #[.agg #[.slice none 0 0], .agg #[.int .i64 0, .int .i64 0], .int .i64 e']) (by rw [results_cells2 rfl]; go_simp) rfl ⟨⟨none, 0, 0, 0, 0, e', rfl, .inl ⟨rfl, rfl, rfl, rfl, rfl, he, fun f => absurd f hno.out⟩⟩, hrc.out.put3 none 0 0 0 0⟩
  have hN := nums_of_cells (Q := fun _ => True) trivial (fileL_bytes key (leafAt B 3 root)) hrow
  rw [fileL_length] at hN
  replace hN := hid hN
  replace hok := hid hok
  clear hrow
  by_cases hto : 0 ≤ to ∧ to ≤ 256
  case neg =>
    have q1 := hrc.out.r10.cell 0
    have q2 := hrc.out.r10.frozen 0
    have q3 := hrc.out.r11.cell 0
    have q4 := hrc.out.r11.frozen 0
    have q5 := hrc.out.r11.cell 1
    have q6 := hrc.out.r11.frozen 1
    simp at q1 q3 q5
    go_wp2_with fail
    refine (isSize_no to w1 hto).mono ?_
    rintro e w2 ⟨rfl, rfl⟩
    replace hto := hid hto
    go_wp2_with fail
    refine bodyPost_ret (v := .tuple #[.agg #[.slice none 0 0], .agg #[.int .i64 0, .int .i64 0], .int .i64 3]) (by rw [results_cells2 rfl]; go_simp) rfl ⟨⟨none, 0, 0, 0, 0, 3, rfl, .inl ⟨rfl, rfl, rfl, rfl, rfl, by omega, fun _ f => absurd f hto.out⟩⟩, hrc.out.put3 none 0 0 0 0⟩
  go_wp2_with fail
  refine (isSize_ok to w1 hto).mono ?_
  rintro e w2 ⟨rfl, rfl⟩
  obtain ⟨S, rfl⟩ : ∃ S : Nat, to = (S : Int) := ⟨to.toNat, by omega⟩
  have hS : S ≤ 256 := by omega
  have f0 := kf.out.cell 0
  have s0 := ks.out.cell 0
  simp at f0 s0
  have hTk := hN.out.takeN hS
  obtain ⟨N, hNd⟩ : ∃ N, N = (fileL key (leafAt B 3 root)).take S := ⟨_, rfl⟩
  rw [← hNd] at hTk
  have hg4 := hrc.out.sz
  replace hNd := hid hNd
  replace hTk := hid hTk
  replace hto := hid hto
  go_upto_region 6 with fail
  go_region_with (go_at_call 166; refine (turn_any a n c B key root g1 0 (fileL key (leafAt B 3 root)) _ S _ N cc _ ?_ hok.out.right hok.out.rooted hok.out.kb ?_ ?_ hS h1 hcm hc.out).mono ?_; exact (h.out.below hrc.out.bel).below (below_drew _ _); exact hN.out.below (below_drew _ _); exact hTk.out.below (below_drew _ _); rintro e w3 ⟨⟨y, yn, yc, ra, rs, e', rfl, hcase⟩, b3⟩; have hrc3 := hrc.out.below ((below_drew _ _).trans b3); have q1 := hrc3.r10.cell 0; have q2 := hrc3.r10.frozen 0; have q3 := hrc3.r11.cell 0; have q4 := hrc3.r11.frozen 0; have q5 := hrc3.r11.cell 1; have q6 := hrc3.r11.frozen 1; simp at q1 q3 q5; replace hrc3 := hid hrc3; replace hcase := hid hcase; replace b3 := hid b3)
  all_goals (
    have hfin : Hid (RetW w.heap.size (.returned (.tuple #[.agg #[.slice y yn yc], .agg #[.int .i64 ra, .int .i64 rs], .int .i64 e'])) (put3 w w3 y yn yc ra rs) n B key root size (0 ≤ (S : Int) ∧ (S : Int) ≤ 256) ((fileL key (leafAt B 3 root)).take S) cc) := hid ⟨y, yn, yc, ra, rs, e', rfl, by
      rw [← hNd.out]
      rcases hcase.out with ⟨h2, h3, h4, h5, h6, h7, h8⟩ | ⟨h2, g, C, h3, h4, h5, h6, h7, h8, h9⟩
      · exact .inl ⟨h2, h3, h4, h5, h6, by omega, fun _ _ => ⟨h7, h8⟩⟩
      · have h7' : w2.heap.size ≤ g := h7
        exact .inr ⟨h2, hok.out, hto.out, g, C, h3, h4, h5, h6, by omega, h8.put3 (by omega) _ _ _ _ _, h9⟩⟩
    clear hcase f0 s0
    go_wp2_with fail
    refine bodyPost_ret (v := .tuple #[.agg #[.slice y yn yc], .agg #[.int .i64 ra, .int .i64 rs], .int .i64 e']) (by rw [results_cells2 rfl]; go_simp) rfl ⟨hfin.out, hrc3.out.put3 _ _ _ _ _⟩)
end Go.Proofs.YtihkljfcplfldaaGreat

namespace Go.Proofs.YtihkljfcplfldaaGreat
open Go.RowKit

def N1 : List Int := overL ((zeros 256).take 0) 2 [97, 98, 99]
def N2 : List Int := overL ((padTo N1).take 5) 4 [120, 121]
theorem n1_len : N1.length = 5 := by kernel_rfl
theorem n2_len : N2.length = 6 := by kernel_rfl
theorem chg1 : chg (zeros 256) (padTo N1) 64 = 2 := by kernel_rfl
theorem chg2 : chg (padTo N1) (padTo N2) 64 = 1 := by kernel_rfl
theorem chg3 : chg (padTo N2) (padTo ((padTo N2).take 0)) 64 = 2 := by kernel_rfl
theorem read1 : readL (padTo N2) 6 0 99 = [0, 0, 97, 98, 120, 121] := by kernel_rfl
theorem read2 : readL (padTo N1) 5 1 3 = [0, 97, 98] := by kernel_rfl
theorem n1_bytes : Bytes N1 := by
  unfold N1
  exact overL_bytes (fun x hx => by simp at hx) (fun x hx => by simp at hx; omega)
theorem n2_bytes : Bytes N2 := by
  unfold N2
  exact overL_bytes (fun x hx => padTo_bytes n1_bytes x (List.mem_of_mem_take hx)) (fun x hx => by simp at hx; omega)

/-- the first write -/
structure Filed1 (C : Nat → Blk) (ra : Int) : Prop where
  right : Right 20 C
  ok : FileOk 20 C 7 ra 5
  bytes : fileL 7 (leafAt C 3 ra) = padTo N1
  used : usedTo C 20 ≤ 8
  few : ∀ k, k < 20 → (C k).refs ≤ 112
theorem filed1 {C : Nat → Blk} {ra : Int} (h : TurnAt 20 (fun _ => Blk.zero) C 7 0 (zeros 256) (padTo N1) 64 ra 64) : Filed1 C ra := by
  obtain ⟨hz, he⟩ := fileOk_zero (key := 7) (size := 0) (right_zero 20 (by omega)) (by omega) (by omega)
  have hu := h.used
  have hf := h.turned.few
  rw [chg1] at hu
  rw [used_zero] at hu
  rw [← he] at h
  obtain ⟨h1, h2, _⟩ := h.file hz (by rw [n1_len]; omega) n1_bytes
  rw [n1_len] at h1
  exact ⟨h.turned.right, h1, h2, by omega, fun k hk => by have := hf k hk; omega⟩
/-- the second write -/
structure Filed2 (C : Nat → Blk) (ra rb : Int) : Prop where
  right : Right 20 C
  ok : FileOk 20 C 7 ra 5
  bytes : fileL 7 (leafAt C 3 ra) = padTo N1
  ok2 : FileOk 20 C 7 rb 6
  bytes2 : fileL 7 (leafAt C 3 rb) = padTo N2
  used : usedTo C 20 ≤ 12
  few : ∀ k, k < 20 → (C k).refs ≤ 160
theorem filed2 {B C : Nat → Blk} {ra rb : Int} (hB : Filed1 B ra) (h : TurnAt 20 B C 7 ra (padTo N1) (padTo N2) 64 rb 112) : Filed2 C ra rb := by
  have hu := h.used
  have hf := h.turned.few
  rw [chg2] at hu
  obtain ⟨e1, e2⟩ := hB.ok.ext h.turned.ext h.turned.right
  rw [← hB.bytes] at h
  obtain ⟨h1, h2, _⟩ := h.file hB.ok (by rw [n2_len]; omega) n2_bytes
  rw [n2_len] at h1
  have := hB.used
  exact ⟨h.turned.right, e1, e2.trans hB.bytes, h1, h2, by omega, fun k hk => by have := hf k hk; omega⟩
/-- the cut -/
theorem filed3 {B C : Nat → Blk} {ra rb rc : Int} (hB : Filed2 B ra rb) (h : TurnAt 20 B C 7 rb (padTo N2) (padTo ((padTo N2).take 0)) 64 rc 160) : rc = 0 := by
  rw [← hB.bytes2] at h
  have hl : ((fileL 7 (leafAt B 3 rb)).take 0).length = 0 := by simp
  obtain ⟨h1, h2, _⟩ := h.file hB.ok2 (by rw [hl]; omega) (fun x hx => by simp at hx)
  by_cases e : rc = 0
  · exact e
  · exfalso
    obtain ⟨i, hi, hne⟩ := root_leaf h.turned.right 3 rc h.turned.root e
    rcases h1.form i hi with f | f
    · exact hne f
    · apply f
      rw [← chunk_fileL 7 _ hi (h1.leaf04 i hi), h2]
      apply list_ext_getD
      · rw [chunk_length (padTo_length (by rw [hl]; omega)) hi]; rfl
      · intro j hj
        rw [chunk_length (padTo_length (by rw [hl]; omega)) hi] at hj
        rw [chunk_getD _ _ _ hj, padTo_getD, zero4_getD]
        simp

theorem str1 : strOfNums [0, 0, 97, 98, 120, 121] = ⟨#[0, 0, 97, 98, 120, 121]⟩ := by kernel_rfl
theorem str2 : strOfNums [0, 97, 98] = ⟨#[0, 97, 98]⟩ := by kernel_rfl

theorem NumsAt.out {Q : Nat → Prop} {k : IntKind} {w w' : World} {a : Option Addr} {n q : Nat} {l : List Int} (h : NumsAt Q k w a n l) (hq : ∀ b, Q b → b ≠ q) (ho : Out q w w') : NumsAt Q k w' a n l := by
  refine ⟨h.1, h.2.1, fun hn => ?_⟩
  obtain ⟨b, off, rfl, hlt, qb, hc⟩ := h.2.2 hn
  exact ⟨b, off, rfl, Nat.lt_of_lt_of_le hlt ho.size, qb, fun i hi => (ho.cell (p := ⟨b, off + i, none⟩) hlt (hq b qb)).trans (hc i hi)⟩
/-- a store of one's own, where another cell, and new memory, turned -/
theorem Own.out {w w' : World} {g n q : Nat} {B : Nat → Blk} (h : Own w g n B) (hq : q < g) (ho : Out q w w') : Own w' g n B := by
  have hlt := h.lt
  refine ⟨Nat.lt_of_lt_of_le h.lt ho.size, fun i hi => ?_, fun i hi => ?_⟩
  · obtain ⟨ka, kn, kc, ba, bn, bc, b⟩ := h.blocks i hi
    exact ⟨ka, kn, kc, ba, bn, bc, (ho.cell (p := ⟨g, _, none⟩) hlt (by show g ≠ q; omega)).trans b.c0, (ho.cell (p := ⟨g, _, none⟩) hlt (by show g ≠ q; omega)).trans b.c1, (ho.cell (p := ⟨g, _, none⟩) hlt (by show g ≠ q; omega)).trans b.c2, (ho.cell (p := ⟨g, _, none⟩) hlt (by show g ≠ q; omega)).trans b.c3, b.kids.out (fun _ h => by omega) ho, b.bytes.out (fun _ h => by omega) ho, b.refs, b.level, b.caps⟩
  · have e : w'.frozen? ⟨g, i, none⟩ = w.frozen? ⟨g, i, none⟩ := World.frozen?_of_block (w := w) (ho.block g hlt (by omega))
    exact e.trans (h.free i hi)
theorem CellsAt.out {w w' : World} {g q : Nat} {cs : Array Value} {t : TypeId} (h : CellsAt w g cs t) (hq : g ≠ q) (ho : Out q w w') : CellsAt w' g cs t := by
  unfold CellsAt
  rw [ho.block g h.lt hq]
  exact h
/-- a store and a new file are put into their variables -/
structure Vars (w w' : World) (q : Nat) (s : Value) (ra rs : Int) : Prop where
  store : CellsAt w' q #[s] 24
  file : CellsAt w' w.heap.size #[.int .i64 ra, .int .i64 rs] 83
  out : Out q w w'
theorem vars_of {w : World} {q : Nat} {u s : Value} (k : CellsAt w q #[u] 24) (ra rs : Int) : Vars w ((((w.alloc (.cells #[.int .i64 0, .int .i64 0] 83)).setCell ⟨q, 0, none⟩ s).setCell ⟨w.heap.size, 0, none⟩ (.int .i64 ra)).setCell ⟨w.heap.size, 1, none⟩ (.int .i64 rs)) q s ra rs := by
  have hq := k.lt
  have bA := below_alloc w (.cells #[.int .i64 0, .int .i64 0] 83)
  have k1 : CellsAt ((w.alloc (.cells #[.int .i64 0, .int .i64 0] 83)).setCell ⟨q, 0, none⟩ s) q #[s] 24 := by simpa using (k.below bA).set 0 s
  have f1 := (cellsAt_alloc w #[.int .i64 0, .int .i64 0] 83).past (a := ⟨q, 0, none⟩) (show w.heap.size ≠ q by omega) s
  have f2 := f1.set 0 (.int .i64 ra)
  have f3 := f2.set 1 (.int .i64 rs)
  refine ⟨(k1.past (a := ⟨w.heap.size, 0, none⟩) (show q ≠ w.heap.size by omega) _).past (a := ⟨w.heap.size, 1, none⟩) (show q ≠ w.heap.size by omega) _, by simpa using f3, ?_⟩
  have o1 : Out q w ((w.alloc (.cells #[.int .i64 0, .int .i64 0] 83)).setCell ⟨q, 0, none⟩ s) := (Out.of_below bA).trans (Out.of_kept (Kept.setCell (Kept.refl q _) (p := ⟨q, 0, none⟩) rfl s))
  exact (o1.setNew (a := ⟨w.heap.size, 0, none⟩) (Nat.le_refl _)).setNew (a := ⟨w.heap.size, 1, none⟩) (Nat.le_refl _)
/-- the row of a constant string's bytes -/
theorem lit_mark (w : World) (xs : List Int) (t : TypeId) (fr : Nat × Nat) (hw : ∀ x ∈ xs, (Lit.int .u8 x).wf = true) : NumsAt (fun _ => True) .u8 (w.alloc (.cells (xs.map (Value.int .u8)).toArray t fr)) (some ⟨w.heap.size, 0, none⟩) xs.length xs := by
  refine ⟨rfl, hw, fun _ => ⟨w.heap.size, 0, rfl, by simp, trivial, fun i hi => ?_⟩⟩
  rw [Nat.zero_add, World.cell?_alloc_mark]
  simp [List.getD, hi]

/-- the arguments' boxes -/
structure FE (W w : World) (a : Option Addr) (n c : Nat) (fr fs : Int) : Prop where
  s : CellsAt w W.heap.size #[.slice a n c] 24
  f : CellsAt w (W.heap.size + 1) #[.int .i64 fr, .int .i64 fs] 83
  bel : Below W.heap.size W w
theorem FE.below {W w w' : World} {a : Option Addr} {n c : Nat} {fr fs : Int} (h : FE W w a n c fr fs) (b : Below w.heap.size w w') : FE W w' a n c fr fs := ⟨h.s.below b, h.f.below b, Below.tr h.bel b⟩
theorem fe_start (w : World) (a : Option Addr) (n c : Nat) (fr fs : Int) : FE w ((w.alloc (.cells #[.slice a n c] 24)).alloc (.cells #[.int .i64 fr, .int .i64 fs] 83)) a n c fr fs :=
  ⟨(cellsAt_alloc w _ _).below (below_alloc _ (.cells #[.int .i64 fr, .int .i64 fs] 83)), cellsAt_alloc2 w (.cells #[.slice a n c] 24) _ _, below_two w _ _⟩

/-- a store and a file in boxes of their own -/
structure Box (w : World) (q : Nat) (a : Option Addr) (n c : Nat) (fr fs : Int) : Prop where
  s : CellsAt w q #[.slice a n c] 24
  f : CellsAt w (q + 1) #[.int .i64 fr, .int .i64 fs] 83
theorem Box.below {w w' : World} {q : Nat} {a : Option Addr} {n c : Nat} {fr fs : Int} (h : Box w q a n c fr fs) (b : Below w.heap.size w w') : Box w' q a n c fr fs := ⟨h.s.below b, h.f.below b⟩
theorem box_start (w : World) (a : Option Addr) (n c : Nat) (fr fs : Int) : Box ((w.alloc (.cells #[.slice a n c] 24)).alloc (.cells #[.int .i64 fr, .int .i64 fs] 83)) w.heap.size a n c fr fs :=
  ⟨(fe_start w a n c fr fs).s, (fe_start w a n c fr fs).f⟩

theorem readL_all (O : List Int) (s : Nat) (hO : O.length = 256) (hs : s ≤ 256) : readL O s 0 256 = O.take s := by
  unfold readL
  rw [List.drop_zero]
  exact List.take_of_length_le (by simp [hO]; omega)
theorem take_pad (N : List Int) : (padTo N).take N.length = N := by unfold padTo; simp
theorem take_getD (O : List Int) (s k : Nat) (h : k < s) : (O.take s).getD k 0 = O.getD k 0 := by simp [List.getD, h]
theorem take_getD_out (O : List Int) (s k : Nat) (h : s ≤ k) : (O.take s).getD k 0 = 0 := by
  simp only [List.getD]
  rw [List.getElem?_eq_none (by simp; omega)]
  rfl
theorem used_le (B : Nat → Blk) : ∀ n, usedTo B n ≤ n
  | 0 => Nat.le_refl _
  | n + 1 => by
    have := used_le B n
    rw [usedTo_succ]
    split <;> omega
theorem store_congr {w : World} {a : Option Addr} {n : Nat} {B C : Nat → Blk} (h : StoreAt w a n B) (e : ∀ k, k < n → B k = C k) : StoreAt w a n C := fun hp => by
  obtain ⟨b, off, rfl, hlt, hB⟩ := h hp
  exact ⟨b, off, rfl, hlt, hB.congr e⟩
end Go.Proofs.YtihkljfcplfldaaGreat

namespace Go.Proofs.YtihkljfcplfldaaGreat
open Go.ChangeShapes Go.WideShapes Go.RowKit Go.Deep

section
variable {H : Type} {enc : TypeId × Value → H} {W : World}

set_option maxRecDepth 100000 in
theorem bytes_cells {fuel : Nat} {v : Value} {y : DataW H × List MemPlace} (hf : DataW.trod enc Tryz.prog W 0 (fun _ => true) true fuel 28 [v] = some y) :
    ∃ a n c l, v = .slice a n c ∧ RowB W a n c l := by
  obtain ⟨a, n, c, l, he, hc, hm, hN⟩ := nums_open (v := v) Tryz.underlying28 Tryz.underlying5 (by kernel_rfl) hf
  subst he
  refine ⟨a, n, c, l, rfl, hN, hc, hm, fun hn => ?_⟩
  rcases open_ints Tryz.underlying28 Tryz.underlying5 (by kernel_rfl) hf with ⟨hcs, _⟩ | ⟨x, len, cap, zs, hcs, _⟩
  · simp at hcs; exact hcs.2.2
  · simp at hcs; rw [hn] at hcs; cases hcs.1

set_option maxRecDepth 100000 in
theorem disk_open {r : Reach} {b0 : Nat} {v : Value} {d : DataW H} {p : List MemPlace} (hv : Value.okWide Tryz.prog W r b0 53 v) (h : DataW.Trod enc Tryz.prog W 0 (fun _ => true) true 53 v d p) :
    ∃ a n c A b m d' B, v = .agg #[.slice a n c, .slice b m d'] ∧ RowB W a n c A ∧ RowB W b m d' B := by
  obtain ⟨cs, rfl, hsz⟩ := okWide_struct Tryz.underlying53 hv
  have hsz2 : cs.size = 2 := hsz.trans (by kernel_rfl)
  obtain ⟨l⟩ := cs
  match l, hsz2 with
  | [c0, c1], _ =>
    obtain ⟨fuel, hf⟩ := h
    obtain ⟨y0, y1, n, _, _, h0, h1⟩ := trod_struct2 Tryz.underlying53 hf
    have e0 : Tryz.prog.cellsOf 28 = 1 := by kernel_rfl
    simp [Value.cells, e0] at h0 h1
    obtain ⟨a, n, c, A, rfl, hA⟩ := bytes_cells h0
    obtain ⟨b, m, d', B, rfl, hB⟩ := bytes_cells h1
    exact ⟨a, n, c, A, b, m, d', B, rfl, hA, hB⟩
end
end Go.Proofs.YtihkljfcplfldaaGreat
