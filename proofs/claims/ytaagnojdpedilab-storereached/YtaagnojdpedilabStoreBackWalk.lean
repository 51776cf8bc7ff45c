/-
  The walk of the law StoreBack out of contracts. Nothing here is trusted.
-/
import Derived.Test.YtaagnojdpedilabSto3
import Derived.Deep.CutRange
import Derived.BigRegion
set_option linter.unusedVariables false
namespace Go.Proofs.Ytaagnojdpedilab
open Go.RowKit

/-- what store.Make answers, told in one -/
theorem RetMade.uni {base : Nat} {e : Ending} {w : World} {n : Nat} {B : Nat → Blk} {K : Blk} (h : RetMade base e w n B K) :
    ∃ (sa : Option Addr) (sn sc : Nat) (k e' : Int), e = .returned (.tuple #[.agg #[.slice sa sn sc], .int .i64 k, .int .i64 e']) ∧ (e' = 0 → sn = n ∧ ∃ i : Nat, i < n ∧ k = (i : Int) + 1 ∧ Makeable n B K ∧ (B i).refs = 0 ∧ StoreAt w sa n (made B K i)) := by
  rcases h with ⟨e', rfl, he, _⟩ | ⟨i, hi, hy, hi0, _, g, c, rfl, _, hgl, hB⟩
  · exact ⟨none, 0, 0, 0, e', rfl, fun h => absurd h he⟩
  · exact ⟨_, n, c, _, 0, rfl, fun _ => ⟨rfl, i, hi, rfl, hy, hi0, store_of hgl hB⟩⟩
theorem RetKeep.uni {base : Nat} {e : Ending} {w : World} {n : Nat} {B : Nat → Blk} {a : Int} (h : RetKeep base e w n B a) :
    ∃ (sa : Option Addr) (sn sc : Nat) (e' : Int), e = .returned (.tuple #[.agg #[.slice sa sn sc], .int .i64 e']) ∧ (e' = 0 → sn = n ∧ Keepable n B a ∧ StoreAt w sa n (keptB B a)) := by
  rcases h with ⟨e', rfl, he, _⟩ | ⟨hy, C, ⟨g, c, rfl, _, hgl, hB⟩, rfl⟩
  · exact ⟨none, 0, 0, e', rfl, fun h => absurd h he⟩
  · exact ⟨_, n, c, 0, rfl, fun _ => ⟨rfl, hy, store_of hgl hB⟩⟩
theorem RetDrop.yes {base : Nat} {e : Ending} {w : World} {n : Nat} {B : Nat → Blk} {a : Int} (h : RetDrop base e w n B a) (hd : Droppable n B a) :
    ∃ (sa : Option Addr) (sc : Nat) (C : Nat → Blk), e = .returned (.tuple #[.agg #[.slice sa n sc], .int .i64 0]) ∧ StoreAt w sa n C ∧ Right n C ∧ Fell n B C [a] := by
  rcases h with ⟨e', _, _, hno⟩ | ⟨_, C, ⟨g, c, rfl, _, hgl, hB⟩, hR, hF⟩
  · exact absurd hd hno
  · exact ⟨_, c, C, rfl, store_of hgl hB, hR, hF⟩
theorem StoreAt.congr {w : World} {a : Option Addr} {n : Nat} {B C : Nat → Blk} (h : StoreAt w a n B) (e : ∀ k, k < n → B k = C k) : StoreAt w a n C := fun hp => by
  obtain ⟨b, off, rfl, hb, hB⟩ := h hp
  exact ⟨b, off, rfl, hb, hB.congr e⟩
theorem right_few {n : Nat} {B : Nat → Blk} (h : Right n B) : ∀ i, i < n → (B i).kids.length ≤ 4 ∧ (B i).bytes.length ≤ 4 := fun i hi => ⟨(h.one i hi).few, (h.one i hi).few2⟩

theorem app_one (w : World) (v : Value) (t : TypeId) : ∀ j u, ([v] : List Value)[j]? = some u → (w.alloc (.cells #[v] t)).cell? ((⟨w.heap.size, 0, none⟩ : Addr).add j) = some u := by
  intro j u hj
  match j, hj with
  | 0, hj => simp at hj; subst hj; simp [Addr.add]

/-- what the law keeps in memory -/
structure BE (W w : World) (a : Option Addr) (n c : Nat) : Prop where
  s : CellsAt w W.heap.size #[.slice a n c] 24
  bel : Below W.heap.size W w
theorem BE.below {W w w' : World} {a : Option Addr} {n c : Nat} (h : BE W w a n c) (b : Below w.heap.size w w') : BE W w' a n c := ⟨h.s.below b, Below.tr h.bel b⟩

set_option maxHeartbeats 8000000 in
set_option maxRecDepth 100000 in
theorem storeBack_walk (a : Option Addr) (n c : Nat) (B : Nat → Blk) (K : Blk) (ka : Option Addr) (kn kc : Nat) (ba : Option Addr) (bn bc : Nat) (x : Int) (w : World) (hnm : n ≤ 9223372036854775807) (h : StoreAt w a n B)
    (hk : NumsAt (fun _ => True) .i64 w ka kn K.kids) (hb : NumsAt (fun _ => True) .u8 w ba bn K.bytes) (hlv : -9223372036854775808 ≤ K.level ∧ K.level ≤ 9223372036854775807) (hcc : kn ≤ kc ∧ bn ≤ bc) (hx : -9223372036854775808 ≤ x ∧ x ≤ 9223372036854775807) :
    Calls Try.prog 3 #[.agg #[.slice a n c], .agg #[.int .i64 K.refs, .int .i64 K.level, .slice ka kn kc, .slice ba bn bc], .int .i64 x] w fun e w' => e = .returned (.bool true) ∧ Below w.heap.size w w' := by
  have b0 := (below_alloc w (.cells #[.slice a n c] 24)).alloc (by simp) (.cells #[.int .i64 K.refs, .int .i64 K.level, .slice ka kn kc, .slice ba bn bc] 28)
  have k1 : CellsAt _ w.heap.size #[.slice a n c] 24 := (cellsAt_alloc w _ _).below (below_alloc _ (.cells #[.int .i64 K.refs, .int .i64 K.level, .slice ka kn kc, .slice ba bn bc] 28))
  have k2 := cellsAt_alloc2 w (.cells #[.slice a n c] 24) #[.int .i64 K.refs, .int .i64 K.level, .slice ka kn kc, .slice ba bn bc] 28
  have hE : BE w _ a n c := ⟨k1, b0⟩
  replace hE := hid hE
  replace k2 := hid k2
  replace h := hid h
  replace hk := hid hk
  replace hb := hid hb
  clear k1 b0
  go_enter Try.func3, Try.ntmps3
  go_wp2_with fail
  generalize (w.alloc (.cells #[.slice a n c] 24)).alloc (.cells #[.int .i64 K.refs, .int .i64 K.level, .slice ka kn kc, .slice ba bn bc] 28) = w0 at *
  refine (crowded_any a n c B w0 hnm (h.out.below hE.out.bel)).mono ?_
  rintro e w1 ⟨⟨t, rfl, ht⟩, b1⟩
  replace hE := hE.out.below b1
  replace k2 := k2.out.below b1
  clear b1
  cases t
  case true =>
    replace hE := hid hE
    go_wp2_with fail
    go_ret
    exact ⟨rfl, hE.out.bel⟩
  have hcr := hid (ht rfl)
  clear ht
  have m0 := hE.s.cell 0
  have c0 := k2.cell 0
  have c1 := k2.cell 1
  have c2 := k2.cell 2
  have c3 := k2.cell 3
  simp at m0 c0 c1 c2 c3
  replace hE := hid hE
  clear k2
  go_wp2_with fail
  refine (storeMake_any a n c B K ka kn kc ba bn bc (fun _ => True) w1 (h.out.below hE.out.bel) (hk.out.below hE.out.bel) (hb.out.below hE.out.bel) hlv hcc).mono ?_
  rintro e w2 ⟨hM0, b2⟩
  obtain ⟨sa, sn, sc, kk, e', rfl, hM⟩ := hM0.uni
  clear hM0
  replace hM := hid hM
  replace hE := hid (hE.out.below b2)
  clear m0 c0 c1 c2 c3 hk hb b2
  go_upto_if 43 with fail
  have bA := below_alloc w2 (.cells #[.slice sa sn sc] 24)
  have k7 := cellsAt_alloc w2 #[.slice sa sn sc] 24
  replace hE := hid (hE.out.below bA)
  go_cut [7, 8, 9] from 33 (fun _ _ _ wc => BE w wc a n c)
  case first =>
    by_cases h0 : e' = 0
    · obtain ⟨rfl, i, hi, rfl, hy, hi0, hSt⟩ := hM.out h0
      have h0' : (e' == 0) = true := by simp [h0]
      have hsmall := made_small (i := i) hcr.out hy.2.1
      have hRm := right_made hy.1 hy.2.1 hi hi0 hsmall
      have hdr : Droppable sn (made B K i) ((i : Int) + 1) := droppable_of hRm hi (by rw [outs_made hy.1 hy.2.1 hi hi0 i hi, if_pos rfl]; decide)
      have hused := used_made hy.1 hy.2.1 hi hi0
      have hul := usedTo_le B sn
      have hn := hy.1.small
      replace hSt := hSt.below bA
      replace hdr := hid hdr
      replace hRm := hid hRm
      replace hused := hid hused
      replace hy := hid hy
      replace hi0 := hid hi0
      replace hSt := hid hSt
      clear hsmall hM bA
      generalize w2.alloc (.cells #[.slice sa sn sc] 24) = w3 at *
      have m7 := k7.cell 0
      simp at m7
      go_wp2_with fail
      refine (storeDrop_any sa sn sc (made B K i) ((i : Int) + 1) w3 hSt.out).mono ?_
      rintro e w4 ⟨hD, b4⟩
      obtain ⟨da, dc, C, rfl, hSd, hRC, hFC⟩ := hD.yes hdr.out
      have hback := back_make hy.out.1 hy.out.2.1 hi hi0.out hRC hFC
      replace hSd := hSd.congr hback
      have bA := below_alloc w4 (.cells #[.slice da sn dc] 24)
      have k10 := cellsAt_alloc w4 #[.slice da sn dc] 24
      replace hSd := hid (hSd.below bA)
      replace hSt := hid ((hSt.out.below b4).below bA)
      replace k7 := (k7.below b4).below bA
      replace hE := hid ((hE.out.below b4).below bA)
      clear hD hback hRC hFC b4 bA m7
      have m0 := hE.out.s.cell 0
      simp only [List.getElem?_toArray, List.getElem?_cons_zero] at m0
      replace k7 := hid k7
      replace k10 := hid k10
      go_wp2_with fail
      generalize w4.alloc (.cells #[.slice da sn dc] 24) = w5 at *
      refine (storeUsed_any a sn c B w5 (h.out.below hE.out.bel)).mono ?_
      rintro e w6 ⟨b6, ⟨e2, _, _, hno⟩ | ⟨_, rfl⟩⟩
      · exact absurd hy.out.1 hno
      replace hSd := hid (hSd.out.below b6)
      replace hSt := hid (hSt.out.below b6)
      replace k7 := k7.out.below b6
      replace k10 := hid (k10.out.below b6)
      replace hE := hid (hE.out.below b6)
      have m7 := k7.cell 0
      simp at m7
      replace k7 := hid k7
      clear b6 m0
      go_wp2_with fail
      refine (storeUsed_any sa sn sc (made B K i) w6 hSt.out).mono ?_
      rintro e w7 ⟨b7, ⟨e2, _, _, hno⟩ | ⟨_, rfl⟩⟩
      · exact absurd hRm.out hno
      rw [hused.out]
      generalize usedTo B sn = us at *
      replace hSd := hid (hSd.out.below b7)
      replace hSt := hid (hSt.out.below b7)
      replace k7 := k7.out.below b7
      replace k10 := k10.out.below b7
      replace hE := hid (hE.out.below b7)
      clear m7
      have m7 := k7.cell 0
      have m10 := k10.cell 0
      have m0 := hE.out.s.cell 0
      simp at m7 m10 m0
      replace k7 := hid k7
      clear b7 k10
      go_wp2_with fail
      refine (storeSame_true da a sn dc c B w7 hn (right_few hy.out.1) hSd.out (h.out.below hE.out.bel)).mono ?_
      rintro e w8 ⟨rfl, b8⟩
      replace hSt := hid (hSt.out.below b8)
      replace k7 := k7.out.below b8
      replace hE := hid (hE.out.below b8)
      clear m7 m10 m0 b8 hSd
      have m7 := k7.cell 0
      simp at m7
      have hus : ((((us + 1 : Nat) : Int)) == (us : Int) + 1) = true := by simp
      go_wp2_with fail
      refine (storeCheck_any sa sn sc (made B K i) w8 hSt.out).mono ?_
      rintro e w9 ⟨⟨e3, rfl, he3⟩, b9⟩
      obtain rfl : e3 = 0 := he3.2 hRm.out
      replace hE := hid (hE.out.below b9)
      clear m7 k7 b9 he3
      go_wp2_with fail
      go_meet
      exact hE.out
    · have h0' : (e' == 0) = false := by simp [h0]
      go_wp2_with fail
      go_meet
      exact hE.out
  case rest =>
    clear hM k7 bA hE
    rename_i uS7 uS8 uS9
    replace hcut := hid hcut
    have m0 := hcut.out.s.cell 0
    simp at m0
    go_wp2_with fail
    refine (storeKeep_any a n c B x wc (h.out.below hcut.out.bel)).mono ?_
    rintro e v1 ⟨hM0, b2⟩
    obtain ⟨sa, sn, sc, e', rfl, hM⟩ := hM0.uni
    clear hM0 m0
    replace hM := hid hM
    have hE := hid (hcut.out.below b2)
    clear b2 hcut
    go_upto_if 94 with fail
    have bA := below_alloc v1 (.cells #[.slice sa sn sc] 24)
    have k16 := cellsAt_alloc v1 #[.slice sa sn sc] 24
    replace hE := hid (hE.out.below bA)
    go_cut [16, 17] from 33 (fun _ _ wc => BE w wc a n c)
    case first =>
      by_cases h0 : e' = 0
      · obtain ⟨rfl, hy, hSt⟩ := hM.out h0
        have h0' : (e' == 0) = true := by simp [h0]
        obtain ⟨i, rfl⟩ : ∃ i : Nat, x = (i : Int) + 1 := ⟨(x - 1).toNat, by have := hy.2.1; omega⟩
        have hi : i < sn := by have := hy.2.2.1; omega
        have hr0 : (B i).refs ≠ 0 := by
          have := hy.2.2.2
          rw [show ((i : Int) + 1 - 1).toNat = i by omega] at this
          exact this
        have hdr := drop_kept hy.1 hi hr0 (hcr.out i hi)
        have hn := hy.1.small
        replace hSt := hSt.below bA
        replace hdr := hid hdr
        replace hy := hid hy
        replace hSt := hid hSt
        replace hr0 := hid hr0
        clear hM bA
        generalize v1.alloc (.cells #[.slice sa sn sc] 24) = w3 at *
        have m7 := k16.cell 0
        simp at m7
        go_wp2_with fail
        refine (storeDrop_any sa sn sc (keptB B ((i : Int) + 1)) ((i : Int) + 1) w3 hSt.out).mono ?_
        rintro e w4 ⟨hD, b4⟩
        obtain ⟨da, dc, C, rfl, hSd, hRC, hFC⟩ := hD.yes hdr.out
        have hback := back_keep hy.out.1 hi hr0.out hRC hFC
        replace hSd := hSd.congr hback
        have bA := below_alloc w4 (.cells #[.slice da sn dc] 24)
        have k10 := cellsAt_alloc w4 #[.slice da sn dc] 24
        replace hSd := hid (hSd.below bA)
        replace hE := hE.out.below b4
        replace hE := hid (hE.below bA)
        clear hD hback hRC hFC b4 bA m7 k16 hSt
        have m0 := hE.out.s.cell 0
        simp only [List.getElem?_toArray, List.getElem?_cons_zero] at m0
        replace k10 := hid k10
        go_wp2_with fail
        generalize w4.alloc (.cells #[.slice da sn dc] 24) = w5 at *
        refine (storeSame_true da a sn dc c B w5 hn (right_few hy.out.1) hSd.out (h.out.below hE.out.bel)).mono ?_
        rintro e w8 ⟨rfl, b8⟩
        replace hE := hid (hE.out.below b8)
        clear m0 b8 hSd k10
        go_wp2_with fail
        go_meet
        exact hE.out
      · have h0' : (e' == 0) = false := by simp [h0]
        go_wp2_with fail
        go_meet
        exact hE.out
    case rest =>
      clear hM k16 bA hE
      replace hcut := hid hcut
      rename_i uT16 uT17
      have m0 := hcut.out.s.cell 0
      simp at m0
      obtain ⟨i0, hi, hz0, hz1, hz2⟩ := info_parts Try.infoInt
      go_wp2_with fail
      refine (storeDrop_any a n c B x _ (h.out.below hcut.out.bel)).mono ?_
      rintro e v2 ⟨hD, b2⟩
      have hE := hid (hcut.out.below b2)
      clear m0 b2 hcut
      rcases hD with ⟨e', rfl, he', _⟩ | ⟨hdr, C, ⟨g4, c4, rfl, hg4, hgl4, hB4⟩, hRC, hFC⟩
      · have he2 : (e' == 0) = false := by simp [he']
        replace hE := hid (hE.out.below (below_alloc v2 (.cells #[.slice none 0 0] 24)))
        go_wp2_with fail
        generalize v2.alloc (.cells #[.slice none 0 0] 24) = v3 at *
        refine (stored_any v3).mono ?_
        rintro e v4 ⟨rfl, b4⟩
        replace hE := hid (hE.out.below b4)
        clear b4
        go_wp2_with fail
        refine (stored_any v4).mono ?_
        rintro e v5 ⟨rfl, b5⟩
        replace hE := hid (hE.out.below b5)
        clear b5
        go_wp2_with fail
        go_ret
        exact ⟨rfl, hE.out.bel⟩
      · have hSd := store_of hgl4 hB4
        clear hB4 hg4 hgl4
        have hR := hdr.1
        have hn := hR.small
        obtain ⟨ix, rfl⟩ : ∃ ix : Nat, x = (ix : Int) + 1 := ⟨(x - 1).toNat, by have := hdr.2.1.1; omega⟩
        have hix : ix < n := by have := hdr.2.1.2.1; omega
        have bA := below_alloc v2 (.cells #[.slice (some ⟨g4, 0, none⟩) n c4] 24)
        have k20 := cellsAt_alloc v2 #[.slice (some ⟨g4, 0, none⟩) n c4] 24
        replace hSd := hSd.below bA
        replace hE := hE.out.below bA
        replace hRC := hid hRC
        replace hFC := hid hFC
        replace hR := hid hR
        replace hE := hid hE
        replace hSd := hid hSd
        replace k20 := hid k20
        clear bA hdr
        go_wp2_with fail
        generalize v2.alloc (.cells #[.slice (some ⟨g4, 0, none⟩) n c4] 24) = v3 at *
        refine (stored_any v3).mono ?_
        rintro e v4 ⟨rfl, b4⟩
        replace hE := hE.out.below b4
        replace hSd := hid (hSd.out.below b4)
        replace k20 := hid (k20.out.below b4)
        clear b4
        have m0 := hE.s.cell 0
        simp at m0
        replace hE := hid hE
        go_wp2_with fail
        refine (storeOutside_any a n c B v4 (h.out.below hE.out.bel)).mono ?_
        rintro e w4 ⟨b4, ⟨e2, _, _, hno⟩ | ⟨_, g3, rfl, hrow⟩⟩
        · exact absurd hR.out hno
        replace hE := hid (hE.out.below b4)
        replace hSd := hid (hSd.out.below b4)
        replace k20 := k20.out.below b4
        clear b4 m0
        have m20 := k20.cell 0
        simp at m20
        replace k20 := hid k20
        replace hrow := hid hrow
        go_wp2_with fail
        refine (storeCheck_any (some ⟨g4, 0, none⟩) n c4 C w4 hSd.out).mono ?_
        rintro e w5 ⟨⟨e3, rfl, he3⟩, b5⟩
        obtain rfl : e3 = 0 := he3.2 hRC.out
        replace hE := hid (hE.out.below b5)
        replace hSd := hid (hSd.out.below b5)
        replace k20 := hid (k20.out.below b5)
        have hrowc : ∀ k, k < n → w5.cell? ⟨g3, k, none⟩ = some (.int .i64 (outs n B k)) := fun k hk => (b5.cell (p := ⟨g3, k, none⟩) hrow.out.lt.2).trans (hrow.out.cell hk)
        have hg3 : g3 < w5.heap.size := Nat.lt_of_lt_of_le hrow.out.lt.2 b5.size
        replace hrowc := hid hrowc
        clear b5 he3 m20 hrow
        obtain ⟨p, hpdef⟩ : ∃ p : Nat → Bool, p = fun k => decide (1 < outs n B k ∨ (outs n B k = 1 ∧ k ≠ ix)) := ⟨_, rfl⟩
        have hpk : ∀ k, p k = true ↔ (1 < outs n B k ∨ (outs n B k = 1 ∧ k ≠ ix)) := fun k => by rw [hpdef]; simp
        replace hpk := hid hpk
        clear hpdef
        go_wp2_with fail
        go_loopw [23, 136] (fun v u wi => ∃ i : Nat, i ≤ n ∧ u = .int .i64 i ∧ wi.ownsRow w5.heap.size 3 1 v (heldL p i).length ((heldL p i).map (Value.int .i64)) ∧ Below w5.heap.size w5 wi) (fun _ u _ => n - (Go.RowKit.intOf u).toNat)
        case atStart => exact ⟨0, Nat.zero_le _, rfl, World.ownsRow_nil _ _ _ _, Below.refl _ _⟩
        case round =>
          obtain ⟨i, hin, rfl, hown, hbel⟩ := hrel
          by_cases hlt : i < n
          · have hrc : wr.cell? ⟨g3, i, none⟩ = some (.int .i64 (outs n B i)) := (hbel.cell (p := ⟨g3, i, none⟩) hg3).trans (hrowc.out i hlt)
            have hsz := hbel.size
            have hs : Hid (heldL p (i + 1) = heldL p i ++ (if p i = true then [(i : Int) + 1] else [])) := hid rfl
            have hln := heldL_length p i
            have hln2 := heldL_length p (i + 1)
            have hpi := hid (hpk.out i)
            generalize outs n B i = oi at *
            by_cases c1 : 1 < oi
            · have hp := hpi.out.2 (.inl c1)
              replace hs : Hid (heldL p (i + 1) = heldL p i ++ [(i : Int) + 1]) := hid (by rw [hs.out, if_pos hp])
              generalize hL : heldL p i = L at *
              generalize hL2 : heldL p (i + 1) = L2 at *
              replace hL := hid hL
              replace hL2 := hid hL2
              clear hp
              go_wp2_with (at_builtin; refine wpList_append_own _ rfl _ _ 25 rfl w5.heap.size 3 i0 (.int .i64 0) 1 8 Try.underlying25 hi hz0 hz1 hz2 rfl (by decide) _ _ _ rfl (hown.alloc _) ⟨wr.heap.size, 0, none⟩ 1 1 [.int .i64 ((i : Int) + 1)] rfl rfl (app_one _ _ _) ?qa2 ?qa3 ?qa4 ?qa5 ?_)
              case qa2 => first | rfl | (intro u hu; simp at hu; subst hu; rfl)
              case qa3 => first | omega | (unfold maxLen; omega)
              case qa4 => omega
              case qa5 => first | omega | (simp; omega)
              intro v' w6 hown' hgrow _
              have hbel' := (hbel.alloc (by omega) _).grown hgrow (by simp; omega) (by
                intro k' hk'
                exact (hown.lt k' hk').1)
              have hown2 : w6.ownsRow w5.heap.size 3 1 v' L2.length (L2.map (Value.int .i64)) := by
                rw [hs.out, List.map_append, List.length_append]; exact hown'
              clear hown hown' hgrow hs hbel
              go_wp2_with fail
              go_roundw
              case rel => exact ⟨i + 1, by omega, by go_num, by rw [hL2.out]; exact hown2, hbel'⟩
              case measure => simp [Go.RowKit.intOf]; omega
            · by_cases c2 : oi = 1
              · have c2' : (oi == 1) = true := by simp [c2]
                by_cases c3 : i = ix
                · have c3' : ((i : Int) == (ix : Int)) = true := by simp [c3]
                  have hp : ¬ p i = true := fun f => by rcases hpi.out.1 f with f | f; exact c1 f; exact f.2 c3
                  clear c3 c2
                  replace hs : Hid (heldL p (i + 1) = heldL p i) := hid (by rw [hs.out, if_neg hp, List.append_nil])
                  replace hown := hid hown
                  clear hp
                  go_wp2_with fail
                  go_roundw
                  case rel => exact ⟨i + 1, by omega, by go_num, by rw [hs.out]; exact hown.out, hbel⟩
                  case measure => simp [Go.RowKit.intOf]; omega
                · have c3' : ((i : Int) == (ix : Int)) = false := by simp; omega
                  have hp := hpi.out.2 (.inr ⟨c2, c3⟩)
                  clear c2
                  replace hs : Hid (heldL p (i + 1) = heldL p i ++ [(i : Int) + 1]) := hid (by rw [hs.out, if_pos hp])
                  generalize hL : heldL p i = L at *
                  generalize hL2 : heldL p (i + 1) = L2 at *
                  replace hL := hid hL
                  replace hL2 := hid hL2
                  clear hp
                  go_wp2_with (at_builtin; refine wpList_append_own _ rfl _ _ 25 rfl w5.heap.size 3 i0 (.int .i64 0) 1 8 Try.underlying25 hi hz0 hz1 hz2 rfl (by decide) _ _ _ rfl (hown.alloc _) ⟨wr.heap.size, 0, none⟩ 1 1 [.int .i64 ((i : Int) + 1)] rfl rfl (app_one _ _ _) ?qb2 ?qb3 ?qb4 ?qb5 ?_)
                  case qb2 => first | rfl | (intro u hu; simp at hu; subst hu; rfl)
                  case qb3 => first | omega | (unfold maxLen; omega)
                  case qb4 => omega
                  case qb5 => first | omega | (simp; omega)
                  intro v' w6 hown' hgrow _
                  have hbel' := (hbel.alloc (by omega) _).grown hgrow (by simp; omega) (by
                    intro k' hk'
                    exact (hown.lt k' hk').1)
                  have hown2 : w6.ownsRow w5.heap.size 3 1 v' L2.length (L2.map (Value.int .i64)) := by
                    rw [hs.out, List.map_append, List.length_append]; exact hown'
                  clear hown hown' hgrow hs hbel
                  go_wp2_with fail
                  go_roundw
                  case rel => exact ⟨i + 1, by omega, by go_num, by rw [hL2.out]; exact hown2, hbel'⟩
                  case measure => simp [Go.RowKit.intOf]; omega
              · have c2' : (oi == 1) = false := by simp [c2]
                have hp : ¬ p i = true := fun f => by rcases hpi.out.1 f with f | f; exact c1 f; exact c2 f.1
                replace hs : Hid (heldL p (i + 1) = heldL p i) := hid (by rw [hs.out, if_neg hp, List.append_nil])
                replace hown := hid hown
                clear hp
                go_wp2_with fail
                go_roundw
                case rel => exact ⟨i + 1, by omega, by go_num, by rw [hs.out]; exact hown.out, hbel⟩
                case measure => simp [Go.RowKit.intOf]; omega
          · obtain rfl : i = n := by omega
            obtain ⟨ha, hc, rfl, hnc, hN⟩ := numsAt_own (heldL_wf _ i hn) hown
            have hxs := hid (fun x => mem_heldL p x i)
            have hln := heldL_length p i
            replace hE := hid (hE.out.below hbel)
            replace hSd := hid (hSd.out.below hbel)
            replace k20 := hid (k20.out.below hbel)
            replace hN := hN.weaken (R := fun _ => True) (fun _ _ _ => trivial)
            generalize heldL p i = xs at *
            generalize xs.length = m at *
            clear hown hbel hrowc
            have m0 := hE.out.s.cell 0
            simp at m0
            replace hN := hid hN
            have hrootsC : RootsOk i C xs := roots_behind hRC.out hFC.out (fun y hy => by
              obtain ⟨k, hk, hpk', rfl⟩ := (hxs.out y).1 hy
              refine ⟨k, hk, rfl, ?_⟩
              rcases (hpk.out k).1 hpk' with f | ⟨f1, f2⟩
              · rw [List.count_cons]; split <;> simp <;> omega
              · rw [List.count_cons_of_ne (by omega), f1]; simp)
            have hrootsB : RootsOk i B xs := fun y hy => by
              obtain ⟨k, hk, hpk', rfl⟩ := (hxs.out y).1 hy
              refine .inr ⟨by omega, by omega, ?_⟩
              rw [show ((k : Int) + 1 - 1).toNat = k by omega]
              have h1 := (hpk.out k).1 hpk'
              unfold outs at h1
              omega
            replace hrootsC := hid hrootsC
            replace hrootsB := hid hrootsB
            go_wp2_with fail
            refine (storeReach_any a i c B ha m hc xs wr (h.out.below hE.out.bel) hN.out (by omega)).mono ?_
            rintro e w7 ⟨⟨e2, _, _, hno⟩ | ⟨_, v7, L, rfl, hL, hri, hmem⟩, b7⟩
            · exact absurd ⟨hR.out, hrootsB.out⟩ hno
            replace hE := hid (hE.out.below b7)
            replace hSd := hid (hSd.out.below b7)
            replace k20 := k20.out.below b7
            replace hN := hid (hN.out.below b7)
            obtain ⟨la, lc, rfl, _, hLN⟩ := numsAt_own hL.2 hL.1
            clear b7 m0 hL
            have m20 := k20.cell 0
            simp at m20
            replace k20 := hid k20
            replace hri := hid hri
            replace hmem := hid hmem
            replace hLN := hid hLN
            go_wp2_with fail
            refine (storeReach_any (some ⟨g4, 0, none⟩) i c4 C ha m hc xs w7 hSd.out hN.out (by omega)).mono ?_
            rintro e w8 ⟨⟨e2, _, _, hno⟩ | ⟨_, v8, L', rfl, hL', hri', hmem'⟩, b8⟩
            · exact absurd ⟨hRC.out, hrootsC.out⟩ hno
            obtain rfl : L' = L := rising_eq hri' hri.out (fun y => (hmem' y).trans ((clo_behind hRC.out hFC.out hrootsC.out y).symm.trans (hmem.out y).symm))
            replace hE := hid (hE.out.below b8)
            replace hSd := hid (hSd.out.below b8)
            replace k20 := hid (k20.out.below b8)
            replace hLN := hid (hLN.out.below b8)
            obtain ⟨la', lc', rfl, _, hLN'⟩ := numsAt_own hL'.2 hL'.1
            have hthC : ∀ y ∈ L', There i C y := fun y hy => ((hmem' y).1 hy).there hRC.out hrootsC.out
            have hLlen : L'.length ≤ i := pigeon i L' (by unfold Rising at hri'; exact hri'.imp (fun h => by omega)) (fun y hy => ⟨(hthC y hy).1, (hthC y hy).2.1⟩)
            clear b8 m20 hL' hri' hmem' hri hmem hN
            replace hLN' := hid hLN'
            replace hthC := hid hthC
            go_wp2_with fail
            refine (equalInts_same la la' L'.length lc lc' _ _ L' w8 (by omega) hLN.out hLN'.out).mono ?_
            rintro e w9 ⟨rfl, q9, rfl⟩
            have b9 := below_drewN w8.heap.size w8 q9
            replace hE := hid (hE.out.below b9)
            replace hSd := hid (hSd.out.below b9)
            replace k20 := hid (k20.out.below b9)
            replace hLN := hid (hLN.out.below b9)
            clear b9 hLN'
            generalize w8.drewN q9 = w9 at *
            go_wp2_with fail
            generalize hLl : L'.length = ll at *
            replace hLl := hid hLl
            go_loopw [185] (fun v wi => ∃ j : Nat, j ≤ ll ∧ v = .int .i64 j ∧ Below w9.heap.size w9 wi) (fun v _ => ll - (Go.RowKit.intOf v).toNat)
            case atStart => exact ⟨0, Nat.zero_le _, rfl, Below.refl _ _⟩
            case round =>
              obtain ⟨j, hjl, rfl, hbel⟩ := hrel
              by_cases hlt : j < ll
              · obtain ⟨lb, lo, rfl, hlb, _, hlc⟩ := hLN.out.2.2 (by omega)
                have hck := (hbel.cell (p := ⟨lb, lo + j, none⟩) hlb).trans (hlc j hlt)
                have hth := hthC.out _ (hLN.out.getD hlt)
                obtain ⟨k, hke⟩ : ∃ k : Nat, L'.getD j 0 = (k : Int) + 1 := ⟨(L'.getD j 0 - 1).toNat, by have := hth.1; omega⟩
                rw [hke] at hck hth
                have hki : k < i := by have := hth.2.1; omega
                have hcont := fell_content hFC.out hth
                rw [show ((k : Int) + 1 - 1).toNat = k by omega] at hcont
                have hf4 := right_few hR.out k hki
                have hE2 := hE.out.below hbel
                have hSd2 := hSd.out.below hbel
                have k22 := k20.out.below hbel
                have m0 := hE2.s.cell 0
                have m20 := k22.cell 0
                simp at m0 m20
                obtain ⟨sb, so, hsae, hsb, hsB⟩ := (h.out.below hE2.bel) (by omega)
                subst hsae
                obtain ⟨xa, xn, xc, ya, yn, yc, x1⟩ := hsB k hki
                obtain ⟨db, dof, hdae, hdb, hdB⟩ := hSd2 (by omega)
                simp only [Option.some.injEq, Addr.mk.injEq, and_true] at hdae
                obtain ⟨rfl, rfl⟩ := hdae
                obtain ⟨xa', xn', xc', ya', yn', yc', x2⟩ := hdB k hki
                have c0 := x1.c0
                have c1 := x1.c1
                have c2 := x1.c2
                have c3 := x1.c3
                have d0 := x2.c0
                have d1 := x2.c1
                have d2 := x2.c2
                have d3 := x2.c3
                rw [Nat.zero_add] at d0 d1 d2 d3
                have hszw := hE2.s.lt
                have hszd := k22.lt
                have ga1 : ∀ o q, (wr.alloc o).cell? ⟨w.heap.size, q, none⟩ = wr.cell? ⟨w.heap.size, q, none⟩ := fun o q => World.cell?_alloc_past _ _ _ hszw
                have ga2 : ∀ o o' q, ((wr.alloc o).alloc o').cell? ⟨w.heap.size, q, none⟩ = wr.cell? ⟨w.heap.size, q, none⟩ := fun o o' q => by rw [World.cell?_alloc_past _ _ _ (by simp; omega)]; exact ga1 o q
                have gb1 : ∀ o q, (wr.alloc o).cell? ⟨v2.heap.size, q, none⟩ = wr.cell? ⟨v2.heap.size, q, none⟩ := fun o q => World.cell?_alloc_past _ _ _ hszd
                have gb2 : ∀ o o' q, ((wr.alloc o).alloc o').cell? ⟨v2.heap.size, q, none⟩ = wr.cell? ⟨v2.heap.size, q, none⟩ := fun o o' q => by rw [World.cell?_alloc_past _ _ _ (by simp; omega)]; exact gb1 o q
                have gc1 : ∀ o q, (wr.alloc o).cell? ⟨sb, q, none⟩ = wr.cell? ⟨sb, q, none⟩ := fun o q => World.cell?_alloc_past _ _ _ hsb
                have gc2 : ∀ o o' q, ((wr.alloc o).alloc o').cell? ⟨sb, q, none⟩ = wr.cell? ⟨sb, q, none⟩ := fun o o' q => by rw [World.cell?_alloc_past _ _ _ (by simp; omega)]; exact gc1 o q
                have gd1 : ∀ o q, (wr.alloc o).cell? ⟨g4, q, none⟩ = wr.cell? ⟨g4, q, none⟩ := fun o q => World.cell?_alloc_past _ _ _ hdb
                have gd2 : ∀ o o' q, ((wr.alloc o).alloc o').cell? ⟨g4, q, none⟩ = wr.cell? ⟨g4, q, none⟩ := fun o o' q => by rw [World.cell?_alloc_past _ _ _ (by simp; omega)]; exact gd1 o q
                have hkI : (k : Int) < (i : Int) := by omega
                have hkI1 : IntKind.i64.wrap (k : Int) = k := by rw [IntKind.wrap_i64]; omega
                replace hE2 := hid hE2
                replace x1 := hid x1
                replace x2 := hid x2
                replace hcont := hid hcont
                replace hf4 := hid hf4
                clear hke hth hlc hSd2 k22 hsB hdB
                generalize hrf1 : (B k).refs = rf1 at *
                generalize hlv1 : (B k).level = lv1 at *
                generalize hrf2 : (C k).refs = rf2 at *
                generalize hlv2 : (C k).level = lv2 at *
                replace hrf1 := hid hrf1
                replace hrf2 := hid hrf2
                replace hlv1 := hid hlv1
                replace hlv2 := hid hlv2
                go_upto_region 35 with fail
                go_cut [31, 32, 185] from 185 to 222 (fun v31 v32 v185 wc => v185 = .int .i64 j ∧ ∃ g31 g32 : Nat, v31 = .pointer (some ⟨g31, 0, none⟩) ∧ v32 = .pointer (some ⟨g32, 0, none⟩) ∧ CellsAt wc g31 #[.int .i64 rf1, .int .i64 lv1, .slice xa xn xc, .slice ya yn yc] 28 ∧ CellsAt wc g32 #[.int .i64 rf2, .int .i64 lv2, .slice xa' xn' xc', .slice ya' yn' yc'] 28 ∧ Below wr.heap.size wr wc)
                case first =>
                  go_region
                  all_goals (go_wp2_with fail; go_meet; first | exact ⟨rfl, _, _, rfl, rfl, ((cellsAt_alloc wr _ _).below (below_alloc _ _)).below (below_drew _ _), (cellsAt_alloc2 wr _ _ _).below (below_drew _ _), ((below_alloc wr _).alloc (by simp) _).drew⟩ | exact ⟨rfl, _, _, rfl, rfl, (cellsAt_alloc2 wr _ _ _).below (below_drew _ _), ((cellsAt_alloc wr _ _).below (below_alloc _ _)).below (below_drew _ _), ((below_alloc wr _).alloc (by simp) _).drew⟩)
                case rest =>
                  obtain ⟨rfl, g31, g32, rfl, rfl, k31, k32, bC⟩ := hcut
                  clear ga1 ga2 gb1 gb2 gc1 gc2 gd1 gd2 c0 c1 c2 c3 d0 d1 d2 d3 m0 m20 hck hkI hkI1
                  obtain rfl : lv2 = lv1 := hcont.out.1
                  obtain rfl : xn' = xn := by rw [← x2.out.kids.1, ← x1.out.kids.1, hcont.out.2.1]
                  have hkk1 := x1.out.kids.below bC
                  have hkk2 := x2.out.kids.below bC
                  have hbb1 := x1.out.bytes.below bC
                  have hbb2 := x2.out.bytes.below bC
                  rw [hcont.out.2.1] at hkk2
                  rw [hcont.out.2.2] at hbb2
                  have hx4 : xn' ≤ 4 := by have := hf4.out.1; rw [x1.out.kids.1] at this; exact this
                  have e1 := k31.cell 1
                  have e2 := k31.cell 2
                  have e3 := k31.cell 3
                  have f1 := k32.cell 1
                  have f2 := k32.cell 2
                  have f3 := k32.cell 3
                  simp at e1 e2 e3 f1 f2 f3
                  replace hkk1 := hid hkk1
                  replace hkk2 := hid hkk2
                  replace hbb1 := hid hbb1
                  replace hbb2 := hid hbb2
                  clear k31 k32
                  go_wp2_with fail
                  refine (equalInts_same xa xa' xn' xc xc' _ _ (B k).kids _ (by omega) hkk1.out hkk2.out).mono ?_
                  rintro e w11 ⟨rfl, q11, rfl⟩
                  go_wp2_with fail
                  refine (bytesEqual_same ya ya' yn yc yn' yc' _ _ (B k).bytes _ (hbb1.out.below (below_drewN _ _ _)) (hbb2.out.below (below_drewN _ _ _))).mono ?_
                  rintro e w12 ⟨rfl, rfl⟩
                  have bD := (Below.tr hbel bC).trans (below_drewN w9.heap.size _ q11)
                  clear e1 e2 e3 f1 f2 f3 bC
                  go_wp2_with fail
                  go_roundw
                  case rel => exact ⟨j + 1, by omega, by go_num, bD⟩
                  case measure => simp [Go.RowKit.intOf]; omega
              · obtain rfl : j = ll := by omega
                replace hE := hid (hE.out.below hbel)
                go_wp2_with fail
                go_ret
                exact ⟨rfl, hE.out.bel⟩

end Go.Proofs.Ytaagnojdpedilab
