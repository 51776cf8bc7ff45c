/-
  The walk of the law FileBack out of contracts. Nothing here is trusted.
-/
import Derived.Test.YtaagnojdpedilacFileK
set_option linter.unusedVariables false
namespace Go.Proofs.Ytaagnojdpedilac
open Go.RowKit

set_option maxHeartbeats 16000000 in
set_option maxRecDepth 100000 in
theorem fileBack_walk (a : Option Addr) (n c : Nat) (B : Nat → Blk) (key fr fs at' : Int) (ba : Option Addr) (bn bc : Nat) (b : List Int) (w : World) (hnm : n ≤ 9223372036854775807) (h : StoreAt w a n B) (hb : NumsAt (fun _ => True) .u8 w ba bn b) :
    Calls Try.prog 7 #[.agg #[.slice a n c], .int .i64 key, .agg #[.int .i64 fr, .int .i64 fs], .int .i64 at', .slice ba bn bc] w fun e w' => e = .returned (.bool true) ∧ Below w.heap.size w w' := by
  have hE := hid (fe_start w a n c fr fs)
  replace h := hid h
  replace hb := hid hb
  go_enter Try.func7, Try.ntmps7
  go_wp2_with fail
  generalize (w.alloc (.cells #[.slice a n c] 24)).alloc (.cells #[.int .i64 fr, .int .i64 fs] 44) = w0 at *
  refine (crowded_any a n c B w0 hnm (h.out.below hE.out.bel)).mono ?_
  rintro e w1 ⟨⟨t, rfl, ht⟩, b1⟩
  replace hE := hE.out.below b1
  clear b1
  cases t
  case true =>
    replace hE := hid hE
    go_wp2_with fail
    go_ret
    exact ⟨rfl, hE.out.bel⟩
  have hcr := hid (ht rfl)
  clear ht
  have m0 := hE.s.cell 0
  have m1 := hE.f.cell 0
  have m2 := hE.f.cell 1
  simp at m0 m1 m2
  replace hE := hid hE
  go_wp2_with fail
  refine (fileWrite_any a n c B key fr fs at' ba bn bc b 999000 w1 (h.out.below hE.out.bel) (hb.out.below hE.out.bel) (by omega) (by omega) hcr.out).mono ?_
  rintro e w2 ⟨⟨x, ln, lc, ra, rs, e', rfl, hcase⟩, b2⟩
  replace hE := hid (hE.out.below b2)
  clear b2 m0 m1 m2
  have bA := below_two w2 (.cells #[.slice x ln lc] 24) (.cells #[.int .i64 ra, .int .i64 rs] 44)
  replace hE := hid (hE.out.below bA)
  rcases hcase with ⟨rfl, rfl, rfl, rfl, rfl, he, _⟩ | ⟨rfl, hok, hAok, g, C, rfl, hln, hlc, hrs, hg, hOwn, hT⟩
  · have he' : (e' == 0) = false := by simp [he]
    clear bA
    go_wp2_with fail
    generalize (w2.alloc (.cells #[.slice none 0 0] 24)).alloc (.cells #[.int .i64 0, .int .i64 0] 44) = w3 at *
    refine (filed_any w3).mono ?_
    rintro e w4 ⟨rfl, b4⟩
    replace hE := hid (hE.out.below b4)
    go_wp2_with fail
    refine (filed_any w4).mono ?_
    rintro e w5 ⟨rfl, b5⟩
    replace hE := hid (hE.out.below b5)
    go_wp2_with fail
    go_ret
    exact ⟨rfl, hE.out.bel⟩
  obtain rfl := hln.symm
  obtain rfl := hlc.symm
  have hsb := hok.sb
  obtain ⟨sz, rfl⟩ : ∃ sz : Nat, fs = (sz : Int) := ⟨fs.toNat, by omega⟩
  obtain ⟨A, rfl⟩ : ∃ A : Nat, at' = (A : Int) := ⟨at'.toNat, by omega⟩
  rw [Int.toNat_natCast, Int.toNat_natCast] at hT hrs
  have hO := fileL_length key (leafAt B 3 fr)
  have hOb := fileL_bytes key (leafAt B 3 fr)
  obtain ⟨N, hNd⟩ : ∃ N, N = overL ((fileL key (leafAt B 3 fr)).take sz) A b := ⟨_, rfl⟩
  rw [← hNd] at hT hrs
  have hbl := hb.out.1
  have hsz : sz ≤ 256 := by omega
  have hNl : N.length ≤ 256 := by
    rw [hNd, overL_length, List.length_take, hO]
    split <;> omega
  have hNb : Bytes N := by rw [hNd]; exact overL_bytes (fun x hx => hOb x (List.mem_of_mem_take hx)) hb.out.bytes
  have hNk : ∀ k, N.getD k 0 = if A ≤ k ∧ k < A + b.length then b.getD (k - A) 0 else ((fileL key (leafAt B 3 fr)).take sz).getD k 0 := fun k => by rw [hNd]; exact overL_getD _ _ _ _
  obtain ⟨hFg, hFgb, _⟩ := hT.file hok hNl hNb
  obtain ⟨hFf, hFfb⟩ := hok.ext hT.turned.ext hT.turned.right
  have hRB := hok.right
  have hRC := hT.turned.right
  have hn := hRB.small
  have hfewB : ∀ i, i < n → (B i).kids.length ≤ 4 ∧ (B i).bytes.length ≤ 4 := fun i hi => ⟨(hRB.one i hi).few, (hRB.one i hi).few2⟩
  have hTd := hT.turned
  have hrdec : ra = 0 ∨ ∃ m : Nat, ra = (m : Int) + 1 := by
    rcases hTd.root with h0 | ⟨⟨h1, _, _⟩, _⟩
    · exact .inl h0
    · exact .inr ⟨(ra - 1).toNat, by omega⟩
  have hrow : readL (fileL key (leafAt B 3 fr)) sz 0 256 = (fileL key (leafAt B 3 fr)).take sz := readL_all _ _ hO hsz
  have hrowN : readL (padTo N) N.length 0 256 = N := by rw [readL_all _ _ (padTo_length hNl) hNl, take_pad]
  have hpad : padTo ((fileL key (leafAt B 3 fr)).take sz) = fileL key (leafAt B 3 fr) := padTo_take hO hsz (fun k h1 h2 => hok.behind k (by omega) h2)
  have hbx := box_start w2 (some ⟨g, 0, none⟩) n n ra rs
  have hSC := hOwn.store.below bA
  subst hrs
  replace hok := hid hok
  replace hFg := hid hFg
  replace hFgb := hid hFgb
  replace hFf := hid hFf
  replace hFfb := hid hFfb
  replace hRB := hid hRB
  replace hRC := hid hRC
  replace hfewB := hid hfewB
  replace hTd := hid hTd
  replace hrdec := hid hrdec
  replace hrow := hid hrow
  replace hrowN := hid hrowN
  replace hpad := hid hpad
  replace hbx := hid hbx
  replace hSC := hid hSC
  replace hNk := hid hNk
  replace hO := hid hO
  replace hOb := hid hOb
  replace hAok := hid hAok
  clear bA hT hOwn hg hNd hNb
  generalize hOd : fileL key (leafAt B 3 fr) = O at *
  replace hOd := hid hOd
  go_wp2_with fail
  generalize (w2.alloc (.cells #[.slice (some ⟨g, 0, none⟩) n n] 24)).alloc (.cells #[.int .i64 ra, .int .i64 (N.length : Int)] 44) = w3 at *
  refine (filed_any w3).mono ?_
  rintro e w4 ⟨rfl, b4⟩
  replace hE := hE.out.below b4
  replace hbx := hid (hbx.out.below b4)
  replace hSC := hid (hSC.out.below b4)
  clear b4
  have m0 := hE.s.cell 0
  have m1 := hE.f.cell 0
  have m2 := hE.f.cell 1
  simp at m0 m1 m2
  replace hE := hid hE
  go_wp2_with fail
  refine (fileRead_any a n c B key fr sz 0 256 w4 (h.out.below hE.out.bel)).mono ?_
  rintro e w5 ⟨⟨e', _, _, hno⟩ | ⟨x1, n1, c1, rfl, _, hc1, hR1⟩, b5⟩
  · exact absurd ⟨hok.out, by omega, by omega⟩ hno
  rw [hOd.out, Int.toNat_natCast, show (0 : Int).toNat = 0 from rfl, show (256 : Int).toNat = 256 from rfl, hrow.out] at hR1
  replace hR1 := hid (hR1.weaken (R := fun _ => True) (fun _ _ _ => trivial))
  replace hE := hE.out.below b5
  replace hbx := hbx.out.below b5
  replace hSC := hid (hSC.out.below b5)
  clear b5 m0 m1 m2
  have m0 := hbx.s.cell 0
  have m1 := hE.f.cell 0
  have m2 := hE.f.cell 1
  simp at m0 m1 m2
  replace hE := hid hE
  replace hbx := hid hbx
  go_wp2_with fail
  refine (fileRead_any (some ⟨g, 0, none⟩) n n C key fr sz 0 256 w5 hSC.out).mono ?_
  rintro e w6 ⟨⟨e', _, _, hno⟩ | ⟨x2, n2, c2, rfl, _, hc2, hR2⟩, b6⟩
  · exact absurd ⟨hFf.out, by omega, by omega⟩ hno
  rw [hFfb.out, Int.toNat_natCast, show (0 : Int).toNat = 0 from rfl, show (256 : Int).toNat = 256 from rfl, hrow.out] at hR2
  replace hR2 := hid (hR2.weaken (R := fun _ => True) (fun _ _ _ => trivial))
  replace hR1 := hid (hR1.out.below b6)
  replace hE := hid (hE.out.below b6)
  replace hbx := hbx.out.below b6
  replace hSC := hid (hSC.out.below b6)
  clear b6 m0 m1 m2
  have m0 := hbx.s.cell 0
  have m1 := hbx.f.cell 0
  have m2 := hbx.f.cell 1
  simp at m0 m1 m2
  replace hbx := hid hbx
  go_wp2_with fail
  refine (fileRead_any (some ⟨g, 0, none⟩) n n C key ra N.length 0 256 w6 hSC.out).mono ?_
  rintro e w7 ⟨⟨e', _, _, hno⟩ | ⟨x3, n3, c3, rfl, _, hc3, hR3⟩, b7⟩
  · exact absurd ⟨hFg.out, by omega, by omega⟩ hno
  rw [hFgb.out, Int.toNat_natCast, show (0 : Int).toNat = 0 from rfl, show (256 : Int).toNat = 256 from rfl, hrowN.out] at hR3
  replace hR3 := hid (hR3.weaken (R := fun _ => True) (fun _ _ _ => trivial))
  obtain rfl : n3 = N.length := hR3.out.1.symm
  have hPl : (O.take sz).length = sz := by rw [List.length_take, hO.out]; omega
  obtain rfl : n1 = sz := by rw [← hR1.out.1, hPl]
  obtain rfl : n2 = n1 := by rw [← hR2.out.1, hPl]
  replace hR1 := hid (hR1.out.below b7)
  replace hR2 := hid (hR2.out.below b7)
  replace hE := hid (hE.out.below b7)
  replace hbx := hbx.out.below b7
  replace hSC := hid (hSC.out.below b7)
  clear b7 m0 m1 m2
  have m0 := hbx.s.cell 0
  have m1 := hbx.f.cell 0
  have m2 := hbx.f.cell 1
  simp at m0 m1 m2
  replace hbx := hid hbx
  replace hPl := hid hPl
  generalize hPd : O.take n2 = P at *
  replace hPd := hid hPd
  generalize hLd : N.length = L at *
  replace hLd := hid hLd
  go_wp2_with fail
  refine (bytesEqual_same x1 x2 n2 c1 n2 c2 (fun _ => True) (fun _ => True) P w7 hR1.out hR2.out).mono ?_
  rintro e w8 ⟨rfl, rfl⟩
  go_wp2_with fail
  refine (storeCheck_any (some ⟨g, 0, none⟩) n n C w8 hSC.out).mono ?_
  rintro e w9 ⟨⟨e', rfl, he'⟩, b9⟩
  obtain rfl : e' = 0 := he'.2 hRC.out
  replace hR1 := hid (hR1.out.below b9)
  replace hR3 := hid (hR3.out.below b9)
  replace hE := hid (hE.out.below b9)
  replace hbx := hbx.out.below b9
  replace hSC := hid (hSC.out.below b9)
  clear b9 m0 m1 m2 he' hR2
  have m0 := hbx.s.cell 0
  have m1 := hbx.f.cell 0
  have m2 := hbx.f.cell 1
  simp at m0 m1 m2
  replace hbx := hid hbx
  go_wp2_with fail
  refine (fileCheck_any (some ⟨g, 0, none⟩) n n C key ra L w9 hSC.out).mono ?_
  rintro e w10 ⟨⟨e', rfl, he'⟩, b10⟩
  obtain rfl : e' = 0 := he'.2 hFg.out
  replace hR1 := hid (hR1.out.below b10)
  replace hR3 := hid (hR3.out.below b10)
  replace hE := hid (hE.out.below b10)
  replace hbx := hbx.out.below b10
  replace hSC := hid (hSC.out.below b10)
  clear b10 m0 m1 m2 he'
  have m0 := hbx.f.cell 0
  simp at m0
  have hbw := hid (hb.out.below hE.out.bel)
  have hAb : A + bn ≤ 256 := by have := hAok.out; omega
  replace hbx := hid hbx
  go_wp2_with fail
  go_loopw [103] (fun v wr => ∃ k : Nat, k ≤ L ∧ v = .int .i64 k ∧ wr = w10) (fun v _ => L - (Go.RowKit.intOf v).toNat)
  case atStart => exact ⟨0, Nat.zero_le _, rfl, rfl⟩
  case round =>
    obtain ⟨k, hkL, rfl, rfl⟩ := hrel
    by_cases hlt : k < L
    · obtain ⟨xb, xo, rfl, _, _, hxc⟩ := hR3.out.2.2 (by omega)
      have hxk := hxc k hlt
      have hv := hNk.out k
      clear hxc
      by_cases hin : A ≤ k ∧ k < A + b.length
      · rw [if_pos hin] at hv
        obtain ⟨d, rfl⟩ : ∃ d, k = A + d := ⟨k - A, by omega⟩
        have hd : d < bn := by omega
        obtain ⟨yb, yo, rfl, _, _, hyc⟩ := hbw.out.2.2 (by omega)
        have hyk := hyc d hd
        rw [Nat.add_sub_cancel_left] at hv
        rw [hv] at hxk
        clear hyc hv hin
        have e1 : ((A + d : Nat) : Int) - (A : Int) = (d : Int) := by omega
        have e2 : (A : Int) + (d : Int) - (A : Int) = (d : Int) := by omega
        have hAd : A + d ≤ 256 := by omega
        generalize b.getD d 0 = v at *
        go_wp2_with fail
        go_roundw
        case rel => exact ⟨A + d + 1, by omega, by go_num, by simp⟩
        case measure => simp [Go.RowKit.intOf]; omega
      · rw [if_neg hin] at hv
        rw [hv] at hxk
        by_cases hk2 : k < n2
        · obtain ⟨yb, yo, rfl, _, _, hyc⟩ := hR1.out.2.2 (by omega)
          have hyk := hyc k hk2
          clear hyc hv
          generalize P.getD k 0 = v at *
          rw [hbl] at hin
          by_cases hin1 : A ≤ k
          · have hin2 : ¬ (k : Int) < (A : Int) + (bn : Int) := by omega
            go_wp2_with fail
            go_roundw
            case rel => exact ⟨k + 1, by omega, by go_num, by simp⟩
            case measure => simp [Go.RowKit.intOf]; omega
          · have hin2 : ¬ (A : Int) ≤ (k : Int) := by omega
            go_wp2_with fail
            go_roundw
            case rel => exact ⟨k + 1, by omega, by go_num, by simp⟩
            case measure => simp [Go.RowKit.intOf]; omega
        · have hz : P.getD k 0 = 0 := by rw [← hPd.out]; exact take_getD_out _ _ _ (by omega)
          rw [hz] at hxk
          clear hz hv
          rw [hbl] at hin
          by_cases hin1 : A ≤ k
          · have hin2 : ¬ (k : Int) < (A : Int) + (bn : Int) := by omega
            go_wp2_with fail
            go_roundw
            case rel => exact ⟨k + 1, by omega, by go_num, by simp⟩
            case measure => simp [Go.RowKit.intOf]; omega
          · have hin2 : ¬ (A : Int) ≤ (k : Int) := by omega
            go_wp2_with fail
            go_roundw
            case rel => exact ⟨k + 1, by omega, by go_num, by simp⟩
            case measure => simp [Go.RowKit.intOf]; omega
    · obtain rfl : k = L := by omega
      rcases hrdec.out with h0 | ⟨m, h0⟩
      · subst h0
        have m0 := hE.out.s.cell 0
        have m1 := hE.out.f.cell 0
        have m2 := hE.out.f.cell 1
        have m3 := hbx.out.f.cell 0
        simp at m0 m1 m2 m3
        go_wp2_with fail
        refine (fileWrite_any a n c B key fr n2 0 x1 n2 c1 P 999000 _ (h.out.below hE.out.bel) hR1.out (by omega) (by omega) hcr.out).mono ?_
        rintro e wz ⟨⟨y, yn, yc, rz, rs, e', rfl, hcase⟩, bz⟩
        replace hE := hE.out.below bz
        clear m0 m1 m2 bz
        have hN2 : overL ((fileL key (leafAt B 3 fr)).take (n2 : Int).toNat) (0 : Int).toNat P = P := by
          rw [hOd.out, Int.toNat_natCast, hPd.out]
          exact overL_self P
        rw [hN2, hOd.out, hpad.out] at hcase
        have bQ := below_two wz (.cells #[.slice y yn yc] 24) (.cells #[.int .i64 rz, .int .i64 rs] 44)
        have hbz := box_start wz y yn yc rz rs
        replace hE := hE.below bQ
        rcases hcase with ⟨_, _, _, _, _, _, hno⟩ | ⟨rfl, _, _, gz, Z, rfl, hyn, hyc, hrs, _, _, hT⟩
        · exfalso
          have h1 := (hno hok.out (by rw [hPl.out]; omega)).2
          have h2 := used_le B n
          rw [chg_same] at h1
          omega
        obtain rfl := hyn.symm
        obtain rfl := hyc.symm
        obtain rfl : fr = rz := (hT.still (chg_same _ _)).symm
        rw [hPl.out] at hrs
        obtain rfl : (n2 : Int) = rs := hrs.symm
        have m0 := hE.f.cell 0
        have m1 := hE.f.cell 1
        have m2 := hbz.f.cell 0
        have m3 := hbz.f.cell 1
        simp at m0 m1 m2 m3
        replace hE := hid hE
        clear hT hbz bQ
        go_wp2_with fail
        go_ret
        exact ⟨rfl, hE.out.bel⟩
      · subst h0
        have hm0 : (((m : Int) + 1) == 0) = false := by simp; omega
        have hdrop := hid (hTd.out.droppable_end hRB.out)
        have hback := hid (fun D => hTd.out.back (D := D) hRB.out)
        have m0 := hbx.out.s.cell 0
        have m1 := hbx.out.f.cell 0
        simp at m0 m1
        go_wp2_with fail
        refine (storeDrop_any (some ⟨g, 0, none⟩) n n C ((m : Int) + 1) wr hSC.out).mono ?_
        rintro e w11 ⟨hD, b11⟩
        obtain ⟨da, dc, D, rfl, hSD, hRD, hFD⟩ : ∃ (da : Option Addr) (dc : Nat) (D : Nat → Blk), e = .returned (.tuple #[.agg #[.slice da n dc], .int .i64 0]) ∧ StoreAt w11 da n D ∧ Right n D ∧ Fell n C D [(m : Int) + 1] := by
          rcases hD with ⟨e', _, _, hno⟩ | ⟨_, D, ⟨gd, dc, he, hgd, hgdl, hBd⟩, hRD, hFD⟩
          · exact absurd hdrop.out hno
          · exact ⟨_, dc, D, he, store_of hgdl hBd, hRD, hFD⟩
        replace hSD := store_congr hSD (hback.out D hRD hFD)
        have bA := below_alloc w11 (.cells #[.slice da n dc] 24)
        have kD := cellsAt_alloc w11 #[.slice da n dc] 24
        replace hE := (hE.out.below b11).below bA
        replace hR1 := hid ((hR1.out.below b11).below bA)
        replace hSD := hid (hSD.below bA)
        clear m0 m1 hD hRD hFD b11 bA
        have m0 := hE.s.cell 0
        have m1 := hE.f.cell 0
        have m2 := hE.f.cell 1
        simp at m0 m1 m2
        replace hE := hid hE
        replace kD := hid kD
        go_wp2_with fail
        generalize w11.alloc (.cells #[.slice da n dc] 24) = w12 at *
        refine (storeSame_true da a n dc c B w12 hn hfewB.out hSD.out (h.out.below hE.out.bel)).mono ?_
        rintro e w13 ⟨rfl, b13⟩
        replace hE := hE.out.below b13
        replace hR1 := hid (hR1.out.below b13)
        clear m0 m1 m2 b13 hSD kD
        have m0 := hE.s.cell 0
        have m1 := hE.f.cell 0
        have m2 := hE.f.cell 1
        simp at m0 m1 m2
        replace hE := hid hE
        go_wp2_with fail
        refine (fileWrite_any a n c B key fr n2 0 x1 n2 c1 P 999000 _ (h.out.below hE.out.bel) hR1.out (by omega) (by omega) hcr.out).mono ?_
        rintro e wz ⟨⟨y, yn, yc, rz, rs, e', rfl, hcase⟩, bz⟩
        replace hE := hE.out.below bz
        clear m0 m1 m2 bz
        have hN2 : overL ((fileL key (leafAt B 3 fr)).take (n2 : Int).toNat) (0 : Int).toNat P = P := by
          rw [hOd.out, Int.toNat_natCast, hPd.out]
          exact overL_self P
        rw [hN2, hOd.out, hpad.out] at hcase
        have bQ := below_two wz (.cells #[.slice y yn yc] 24) (.cells #[.int .i64 rz, .int .i64 rs] 44)
        have hbz := box_start wz y yn yc rz rs
        replace hE := hE.below bQ
        rcases hcase with ⟨_, _, _, _, _, _, hno⟩ | ⟨rfl, _, _, gz, Z, rfl, hyn, hyc, hrs, _, _, hT⟩
        · exfalso
          have h1 := (hno hok.out (by rw [hPl.out]; omega)).2
          have h2 := used_le B n
          rw [chg_same] at h1
          omega
        obtain rfl := hyn.symm
        obtain rfl := hyc.symm
        obtain rfl : fr = rz := (hT.still (chg_same _ _)).symm
        rw [hPl.out] at hrs
        obtain rfl : (n2 : Int) = rs := hrs.symm
        have m0 := hE.f.cell 0
        have m1 := hE.f.cell 1
        have m2 := hbz.f.cell 0
        have m3 := hbz.f.cell 1
        simp at m0 m1 m2 m3
        replace hE := hid hE
        clear hT hbz bQ
        go_wp2_with fail
        go_ret
        exact ⟨rfl, hE.out.bel⟩
end Go.Proofs.Ytaagnojdpedilac
