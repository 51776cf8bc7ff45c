/-
  The walk of the law FileCuts out of contracts. Nothing here is trusted.
-/
import Derived.Test.YtaagnojdpedilacFileK
set_option linter.unusedVariables false
namespace Go.Proofs.Ytaagnojdpedilac
open Go.RowKit

/-- a Cut that changes no byte -/
theorem cut_still {base : Nat} {e : Ending} {w : World} {n : Nat} {C : Nat → Blk} {key ra s0 : Int} {S : Nat} {cc : Int} {V : List Int} (h : RetW base e w n C key ra s0 (0 ≤ (S : Int) ∧ (S : Int) ≤ 256) ((fileL key (leafAt C 3 ra)).take (S : Int).toNat) cc)
    (hok : FileOk n C key ra s0) (hV : fileL key (leafAt C 3 ra) = V) (hS : S ≤ 256) (hz : ∀ k, S ≤ k → k < 256 → V.getD k 0 = 0) :
    ∃ (g : Nat) (D : Nat → Blk), e = .returned (.tuple #[.agg #[.slice (some ⟨g, 0, none⟩) n n], .agg #[.int .i64 ra, .int .i64 S], .int .i64 0]) ∧ base ≤ g ∧ Own w g n D ∧ FileOk n D key ra S ∧ fileL key (leafAt D 3 ra) = V ∧ ∀ k, k < n → (D k).refs ≤ cc + 48 := by
  have hl : (fileL key (leafAt C 3 ra)).length = 256 := fileL_length _ _
  have hVl : V.length = 256 := by rw [← hV]; exact hl
  have hp : padTo (V.take S) = V := padTo_take hVl hS hz
  have hlen : (V.take S).length = S := by rw [List.length_take, hVl]; omega
  have hb : Bytes (V.take S) := fun x hx => fileL_bytes key (leafAt C 3 ra) x (by rw [hV]; exact List.mem_of_mem_take hx)
  obtain ⟨x, ln, lc, rz, rs, e', rfl, hcase⟩ := h
  rw [Int.toNat_natCast, hV, hp] at hcase
  rcases hcase with ⟨_, _, _, _, _, _, hno⟩ | ⟨rfl, _, _, g, D, rfl, hln, hlc, hrs, hg, hOwn, hT⟩
  · exfalso
    have h1 := (hno hok (by omega)).2
    have h2 := used_le C n
    rw [chg_same] at h1
    omega
  · obtain rfl := hln.symm
    obtain rfl := hlc.symm
    obtain rfl : rz = ra := hT.still (chg_same _ _)
    rw [hlen] at hrs
    subst hrs
    have hfew := hT.turned.few
    have hT' : TurnAt n C D key rz (fileL key (leafAt C 3 rz)) (padTo (V.take S)) 64 rz cc := by rw [hV, hp]; exact hT
    obtain ⟨h1, h2, _⟩ := hT'.file hok (by omega) hb
    rw [hlen] at h1
    rw [hp] at h2
    exact ⟨g, D, rfl, hg, hOwn, h1, h2, fun k hk => by have := hfew k hk; omega⟩

set_option maxHeartbeats 16000000 in
set_option maxRecDepth 100000 in
theorem fileCuts_walk (a : Option Addr) (n c : Nat) (B : Nat → Blk) (key fr fs size more : Int) (w : World) (hnm : n ≤ 9223372036854775807) (h : StoreAt w a n B) :
    Calls Try.prog 8 #[.agg #[.slice a n c], .int .i64 key, .agg #[.int .i64 fr, .int .i64 fs], .int .i64 size, .int .i64 more] w fun e w' => e = .returned (.bool true) ∧ Below w.heap.size w w' := by
  have hE := hid (fe_start w a n c fr fs)
  replace h := hid h
  go_enter Try.func8, Try.ntmps8
  go_wp2_with fail
  generalize (w.alloc (.cells #[.slice a n c] 24)).alloc (.cells #[.int .i64 fr, .int .i64 fs] 44) = w0 at *
  refine (crowded_any a n c B w0 hnm (h.out.below hE.out.bel)).mono ?_
  rintro e w1 ⟨⟨t, rfl, ht⟩, b1⟩
  replace hE := hE.out.below b1
  clear b1
  cases t
  case true =>
    replace hE := hid hE
    go_wp2_with fail
    go_ret
    exact ⟨rfl, hE.out.bel⟩
  have hcr := hid (ht rfl)
  clear ht
  have m0 := hE.s.cell 0
  have m1 := hE.f.cell 0
  have m2 := hE.f.cell 1
  simp at m0 m1 m2
  replace hE := hid hE
  go_wp2_with fail
  refine (fileCut_any a n c B key fr fs size 999000 w1 (h.out.below hE.out.bel) (by omega) (by omega) hcr.out).mono ?_
  rintro e w2 ⟨⟨x, ln, lc, ra, rs, e', rfl, hcase⟩, b2⟩
  replace hE := hid (hE.out.below b2)
  clear b2 m0 m1 m2
  have bA := below_two w2 (.cells #[.slice x ln lc] 24) (.cells #[.int .i64 ra, .int .i64 rs] 44)
  replace hE := hid (hE.out.below bA)
  rcases hcase with ⟨rfl, rfl, rfl, rfl, rfl, he, _⟩ | ⟨rfl, hok, hSok, g, C, rfl, hln, hlc, hrs, hg, hOwn, hT⟩
  · have he' : (e' == 0) = false := by simp [he]
    clear bA
    go_wp2_with fail
    generalize (w2.alloc (.cells #[.slice none 0 0] 24)).alloc (.cells #[.int .i64 0, .int .i64 0] 44) = w3 at *
    refine (filed_any w3).mono ?_
    rintro e w4 ⟨rfl, b4⟩
    replace hE := hid (hE.out.below b4)
    go_wp2_with fail
    refine (filed_any w4).mono ?_
    rintro e w5 ⟨rfl, b5⟩
    replace hE := hid (hE.out.below b5)
    go_wp2_with fail
    go_ret
    exact ⟨rfl, hE.out.bel⟩
  obtain rfl := hln.symm
  obtain rfl := hlc.symm
  have hsb := hok.sb
  obtain ⟨sz, rfl⟩ : ∃ sz : Nat, fs = (sz : Int) := ⟨fs.toNat, by omega⟩
  obtain ⟨S, rfl⟩ : ∃ S : Nat, size = (S : Int) := ⟨size.toNat, by omega⟩
  rw [Int.toNat_natCast] at hT hrs
  have hO := fileL_length key (leafAt B 3 fr)
  have hOb := fileL_bytes key (leafAt B 3 fr)
  have hsz : sz ≤ 256 := by omega
  have hS : S ≤ 256 := by omega
  have hNl : ((fileL key (leafAt B 3 fr)).take S).length = S := by rw [List.length_take, hO]; omega
  rw [hNl] at hrs
  have hNb : Bytes ((fileL key (leafAt B 3 fr)).take S) := fun x hx => hOb x (List.mem_of_mem_take hx)
  obtain ⟨hFg, hFgb, _⟩ := hT.file hok (by omega) hNb
  rw [hNl] at hFg
  have hn := hok.right.small
  have hfew : ∀ k, k < n → (C k).refs ≤ 999300 := fun k hk => by
    have h1 := hT.turned.few k hk
    omega
  have hbeh := hok.behind
  obtain ⟨V, hVd⟩ : ∃ V, V = padTo ((fileL key (leafAt B 3 fr)).take S) := ⟨_, rfl⟩
  have hVz : ∀ k, S ≤ k → k < 256 → V.getD k 0 = 0 := fun k h1 _ => by rw [hVd, padTo_getD]; exact take_getD_out _ _ _ h1
  have hVl : V.length = 256 := by rw [hVd]; exact padTo_length (by omega)
  have hVt : V.take S = (fileL key (leafAt B 3 fr)).take S := by
    have := take_pad ((fileL key (leafAt B 3 fr)).take S)
    rw [hNl, ← hVd] at this
    exact this
  rw [← hVd] at hFgb
  have hrow : readL (fileL key (leafAt B 3 fr)) sz 0 256 = (fileL key (leafAt B 3 fr)).take sz := readL_all _ _ hO hsz
  have hrowV : readL V S 0 256 = (fileL key (leafAt B 3 fr)).take S := by rw [readL_all _ _ hVl hS, hVt]
  have hbx := box_start w2 (some ⟨g, 0, none⟩) n n ra rs
  have hSC := hOwn.store.below bA
  subst hrs
  replace hok := hid hok
  replace hFg := hid hFg
  replace hFgb := hid hFgb
  replace hrow := hid hrow
  replace hrowV := hid hrowV
  replace hbx := hid hbx
  replace hSC := hid hSC
  replace hO := hid hO
  replace hfew := hid hfew
  replace hVz := hid hVz
  replace hbeh := hid hbeh
  clear bA hT hOwn hg hNb hVt hVl hOb hVd hNl
  generalize hOd : fileL key (leafAt B 3 fr) = O at *
  replace hOd := hid hOd
  go_wp2_with fail
  generalize (w2.alloc (.cells #[.slice (some ⟨g, 0, none⟩) n n] 24)).alloc (.cells #[.int .i64 ra, .int .i64 (S : Int)] 44) = w3 at *
  refine (filed_any w3).mono ?_
  rintro e w4 ⟨rfl, b4⟩
  replace hE := hE.out.below b4
  replace hbx := hid (hbx.out.below b4)
  replace hSC := hid (hSC.out.below b4)
  clear b4
  have m0 := hE.s.cell 0
  have m1 := hE.f.cell 0
  have m2 := hE.f.cell 1
  simp at m0 m1 m2
  replace hE := hid hE
  go_wp2_with fail
  refine (fileRead_any a n c B key fr sz 0 256 w4 (h.out.below hE.out.bel)).mono ?_
  rintro e w5 ⟨⟨e', _, _, hno⟩ | ⟨x1, n1, c1, rfl, _, hc1, hR1⟩, b5⟩
  · exact absurd ⟨hok.out, by omega, by omega⟩ hno
  rw [hOd.out, Int.toNat_natCast, show (0 : Int).toNat = 0 from rfl, show (256 : Int).toNat = 256 from rfl, hrow.out] at hR1
  replace hR1 := hid (hR1.weaken (R := fun _ => True) (fun _ _ _ => trivial))
  replace hE := hid (hE.out.below b5)
  replace hbx := hbx.out.below b5
  replace hSC := hid (hSC.out.below b5)
  clear b5 m0 m1 m2
  have m0 := hbx.s.cell 0
  have m1 := hbx.f.cell 0
  have m2 := hbx.f.cell 1
  simp at m0 m1 m2
  replace hbx := hid hbx
  go_wp2_with fail
  refine (fileRead_any (some ⟨g, 0, none⟩) n n C key ra S 0 256 w5 hSC.out).mono ?_
  rintro e w6 ⟨⟨e', _, _, hno⟩ | ⟨x2, n2, c2, rfl, _, hc2, hR2⟩, b6⟩
  · exact absurd ⟨hFg.out, by omega, by omega⟩ hno
  rw [hFgb.out, Int.toNat_natCast, show (0 : Int).toNat = 0 from rfl, show (256 : Int).toNat = 256 from rfl, hrowV.out] at hR2
  replace hR2 := hid (hR2.weaken (R := fun _ => True) (fun _ _ _ => trivial))
  obtain rfl : n1 = sz := by rw [← hR1.out.1, List.length_take, hO.out]; omega
  obtain rfl : n2 = S := by rw [← hR2.out.1, List.length_take, hO.out]; omega
  replace hR1 := hid (hR1.out.below b6)
  replace hE := hid (hE.out.below b6)
  replace hbx := hbx.out.below b6
  replace hSC := hid (hSC.out.below b6)
  clear b6 m0 m1 m2
  have m0 := hbx.s.cell 0
  have m1 := hbx.f.cell 0
  have m2 := hbx.f.cell 1
  simp at m0 m1 m2
  replace hbx := hid hbx
  go_wp2_with fail
  go_loopw [70] (fun v wr => ∃ k : Nat, k ≤ n2 ∧ v = .int .i64 k ∧ wr = w6) (fun v _ => n2 - (Go.RowKit.intOf v).toNat)
  case atStart => exact ⟨0, Nat.zero_le _, rfl, rfl⟩
  case round =>
    obtain ⟨k, hkS, rfl, rfl⟩ := hrel
    by_cases hlt : k < n2
    · obtain ⟨xb, xo, rfl, _, _, hxc⟩ := hR2.out.2.2 (by omega)
      have hxk := hxc k hlt
      rw [take_getD _ _ _ hlt] at hxk
      clear hxc
      by_cases hk2 : k < n1
      · obtain ⟨yb, yo, rfl, _, _, hyc⟩ := hR1.out.2.2 (by omega)
        have hyk := hyc k hk2
        rw [take_getD _ _ _ hk2] at hyk
        clear hyc
        generalize O.getD k 0 = v at *
        go_wp2_with fail
        go_roundw
        case rel => exact ⟨k + 1, by omega, by go_num, by simp⟩
        case measure => simp [Go.RowKit.intOf]; omega
      · rw [hbeh.out k (by omega) (by omega)] at hxk
        go_wp2_with fail
        go_roundw
        case rel => exact ⟨k + 1, by omega, by go_num, by simp⟩
        case measure => simp [Go.RowKit.intOf]; omega
    · obtain rfl : k = n2 := by omega
      clear hR1 hR2
      go_wp2_with fail
      refine (fileCut_any (some ⟨g, 0, none⟩) n n C key ra k k 999300 wr hSC.out (by omega) (by omega) hfew.out).mono ?_
      rintro e w7 ⟨hW7, b7⟩
      obtain ⟨g7, D, rfl, hg7, hOw7, hok7, hb7, hf7⟩ := cut_still hW7 hFg.out hFgb.out hS hVz.out
      replace hE := hid (hE.out.below b7)
      replace hbx := hid (hbx.out.below b7)
      have hw7 : w.heap.size ≤ w7.heap.size := hE.out.bel.size
      have hq7 : w2.heap.size + 1 < w7.heap.size := hbx.out.f.lt
      have bA := below_two w7 (.cells #[.slice (some ⟨g7, 0, none⟩) n n] 24) (.cells #[.int .i64 ra, .int .i64 (k : Int)] 44)
      have hb8 := box_start w7 (some ⟨g7, 0, none⟩) n n ra k
      have hS7 := hid (hOw7.store.below bA)
      replace hE := hE.out.below bA
      replace hbx := hbx.out.below bA
      clear m0 m1 m2 b7 hW7 hOw7 hSC hFg hFgb bA hg7
      have m0 := hbx.f.cell 0
      have m1 := hbx.f.cell 1
      have m2 := hb8.f.cell 0
      have m3 := hb8.f.cell 1
      have m4 := hb8.s.cell 0
      have hlt8 := hb8.s.lt
      replace hok7 := hid hok7
      replace hb7 := hid hb7
      replace hf7 := hid hf7
      replace hE := hid hE
      replace hbx := hid hbx
      replace hb8 := hid hb8
      go_upto_region 19 with fail
      clear m0 m1 m2 m3 m4
      generalize (w7.alloc (.cells #[.slice (some ⟨g7, 0, none⟩) n n] 24)).alloc (.cells #[.int .i64 ra, .int .i64 (k : Int)] 44) = w8 at *
      have e257 : (257 : Int) - (k : Int) = ((257 - k : Nat) : Int) := by omega
      go_wp2_with fail
      refine (at_any more _ w8 ?_ ?_).mono ?_
      · omega
      · omega
      rintro e w9 ⟨⟨r, rfl, hr⟩, rfl⟩
      obtain ⟨M, hM⟩ : ∃ M : Nat, M = r + k := ⟨_, rfl⟩
      have hM256 : M ≤ 256 := by omega
      have hkM : k ≤ M := by omega
      have hMe : (r : Int) + (k : Int) = (M : Int) := by omega
      have hVM := hid (fun q (h1 : M ≤ q) (h2 : q < 256) => hVz.out q (by omega) h2)
      clear hM e257 hr
      have m0 := hb8.out.s.cell 0
      have m1 := hb8.out.f.cell 0
      have m2 := hb8.out.f.cell 1
      simp at m0 m1 m2
      go_wp2_with fail
      refine (fileCut_any (some ⟨g7, 0, none⟩) n n D key ra k M (999300 + 48) w9 hS7.out (by omega) (by omega) hf7.out).mono ?_
      rintro e w10 ⟨hW10, b10⟩
      obtain ⟨g10, D10, rfl, hg10, hOw10, hok10, hb10, hf10⟩ := cut_still hW10 hok7.out hb7.out hM256 hVM.out
      replace hE := hid (hE.out.below b10)
      replace hbx := hid (hbx.out.below b10)
      replace hb8 := hb8.out.below b10
      have hs10 := b10.size
      clear m0 m1 m2 hW10 hS7 b10 hok7 hb7 hf7
      have bA := below_alloc w10 (.cells #[.int .i64 0, .int .i64 0] 44)
      have m0 := (hb8.s.below bA).cell 0
      have m1 := (hb8.s.below bA).frozen 0
      simp at m0
      have kF := (cellsAt_alloc w10 #[.int .i64 0, .int .i64 0] 44).past (a := ⟨w7.heap.size, 0, none⟩) (show w10.heap.size ≠ w7.heap.size by omega) (.slice (some ⟨g10, 0, none⟩) n n)
      have p0 := kF.cell 0
      have p1 := kF.frozen 0
      have p2 := kF.cell 1
      have p3 := kF.frozen 1
      simp only [List.getElem?_toArray, List.getElem?_cons_zero, List.getElem?_cons_succ] at p0 p2
      have Vr := vars_of (s := .slice (some ⟨g10, 0, none⟩) n n) hb8.s ra M
      have hS11 := (hOw10.out (by omega) Vr.out).store
      have hE11 := hE.out.bel.trans (Vr.out.below (B := w.heap.size) (by omega) (by have := hE.out.bel.size; omega))
      have hg11 := hbx.out.f.out (q := w7.heap.size) (by omega) Vr.out
      replace Vr := hid Vr
      replace hS11 := hid hS11
      replace hE11 := hid hE11
      replace hg11 := hid hg11
      replace hok10 := hid hok10
      replace hb10 := hid hb10
      replace hf10 := hid hf10
      clear hb8 kF bA hOw10 hE hbx
      go_upto_region 21 with fail
      clear m0 m1 p0 p1 p2 p3
      generalize (((w10.alloc (.cells #[.int .i64 0, .int .i64 0] 44)).setCell ⟨w7.heap.size, 0, none⟩ (.slice (some ⟨g10, 0, none⟩) n n)).setCell ⟨w10.heap.size, 0, none⟩ (.int .i64 ra)).setCell ⟨w10.heap.size, 1, none⟩ (.int .i64 M) = w11 at *
      have m0 := Vr.out.store.cell 0
      have m1 := Vr.out.file.cell 0
      have m2 := Vr.out.file.cell 1
      simp at m0 m1 m2
      have ks11 := hid Vr.out.store
      have kf11 := hid Vr.out.file
      have hs11 := Vr.out.file.lt
      clear Vr
      go_wp2_with fail
      refine (fileCut_any (some ⟨g10, 0, none⟩) n n D10 key ra M k (999300 + 48 + 48) w11 hS11.out (by omega) (by omega) hf10.out).mono ?_
      rintro e w12 ⟨hW12, b12⟩
      obtain ⟨g12, D12, rfl, hg12, hOw12, hok12, hb12, hf12⟩ := cut_still hW12 hok10.out hb10.out hS hVz.out
      replace hE11 := Below.tr hE11.out b12
      replace hg11 := hg11.out.below b12
      replace ks11 := ks11.out.below b12
      replace kf11 := kf11.out.below b12
      have hs12 := b12.size
      clear m0 m1 m2 hW12 hS11 b12 hok10 hb10 hf10
      have bA := below_alloc w12 (.cells #[.int .i64 0, .int .i64 0] 44)
      have m0 := (ks11.below bA).cell 0
      have m1 := (ks11.below bA).frozen 0
      simp at m0
      have kF := (cellsAt_alloc w12 #[.int .i64 0, .int .i64 0] 44).past (a := ⟨w7.heap.size, 0, none⟩) (show w12.heap.size ≠ w7.heap.size by omega) (.slice (some ⟨g12, 0, none⟩) n n)
      have p0 := kF.cell 0
      have p1 := kF.frozen 0
      have p2 := kF.cell 1
      have p3 := kF.frozen 1
      simp only [List.getElem?_toArray, List.getElem?_cons_zero, List.getElem?_cons_succ] at p0 p2
      have Vr := vars_of (s := .slice (some ⟨g12, 0, none⟩) n n) ks11 ra k
      have hS13 := (hOw12.out (by omega) Vr.out).store
      have hE13 := hE11.trans (Vr.out.below (B := w.heap.size) (by omega) (by have := hE11.size; omega))
      have hg13 := hg11.out (q := w7.heap.size) (by omega) Vr.out
      have hf13 := kf11.out (q := w7.heap.size) (by omega) Vr.out
      have hck : Hid (Checked n D12 ra 3 0) := hid hok12.checked
      replace Vr := hid Vr
      replace hS13 := hid hS13
      replace hE13 := hid hE13
      replace hg13 := hid hg13
      replace hf13 := hid hf13
      clear kF bA hOw12 hE11 hg11 ks11 kf11 hok12 hb12 hf12
      go_upto_region 24 with fail
      clear m0 m1 p0 p1 p2 p3
      generalize (((w12.alloc (.cells #[.int .i64 0, .int .i64 0] 44)).setCell ⟨w7.heap.size, 0, none⟩ (.slice (some ⟨g12, 0, none⟩) n n)).setCell ⟨w12.heap.size, 0, none⟩ (.int .i64 ra)).setCell ⟨w12.heap.size, 1, none⟩ (.int .i64 k) = w13 at *
      have m0 := Vr.out.store.cell 0
      have m1 := Vr.out.file.cell 0
      have m3 := hg13.out.cell 0
      simp at m0 m1 m3
      go_wp2_with fail
      refine (treeDiffer_any (some ⟨g12, 0, none⟩) n n D12 ra ra 3 w13 hS13.out).mono ?_
      rintro e w14 ⟨⟨e', _, _, hno⟩ | ⟨l, v, vn, vc, rfl, _, _, _, _, _, hNv⟩, b14⟩
      · exact absurd ⟨hck.out, hck.out⟩ hno
      rw [diffs_same] at hNv
      obtain rfl : vn = 0 := hNv.1.symm
      have m5 := (Vr.out.file.below b14).cell 1
      have m6 := (hg13.out.below b14).cell 1
      have m7 := (hf13.out.below b14).cell 1
      simp at m5 m6 m7
      replace hE13 := hid (Below.tr hE13.out b14)
      clear hNv Vr hg13 hf13 b14 m0 m1 m3
      go_wp2_with fail
      go_ret
      exact ⟨rfl, hE13.out⟩
end Go.Proofs.Ytaagnojdpedilac
