/-
  FileF, PutF, FileG in one text. Nothing here is trusted.
-/
import Derived.Test.YtmpedoklljhdbaaGreatPart13
import Derived.Test.YtmpedoklljhdbaaGreatPart08
set_option linter.unusedVariables false
namespace Go.Proofs.YtmpedoklljhdbaaGreat
open Go.RowKit

set_option maxHeartbeats 400000 in
theorem cloneRow_any (a : Option Addr) (n c : Nat) (l : List Int) (Q : Nat → Prop) (w : World) (hn : n ≤ 1000) (h : NumsAt Q .u8 w a n l) :
    Calls Tryz.prog 18 #[.slice a n c] w fun e w' =>
      Below w.heap.size w w' ∧ ∃ a' c', e = .returned (.slice a' n c') ∧ n ≤ c' ∧ NumsAt (fun b => w.heap.size ≤ b) .u8 w' a' n l := by
  obtain ⟨i0, hi, hz0, hz1, hz2⟩ := info_parts Tryz.infoByte
  have qn : ∀ (w : World) (a : Option Addr) (n c n' c' : Nat), (binOp .eql 28 (.slice a n c) (.slice none n' c')).run Tryz.prog w = .ok (.bool a.isNone) w := fun w a n c n' c' => Lib.run_eql_slice_nil w _ _ a n c n' c' Tryz.underlying28
  cases a with
  | none =>
    have hn0 : n = 0 := by
      rcases Nat.eq_zero_or_pos n with h0 | h0
      · exact h0
      · obtain ⟨_, _, h1, _⟩ := h.2.2 h0
        cases h1
    subst hn0
    have hl := h.1
    replace h := hid h
    go_enter Tryz.func18, Tryz.ntmps18
    go_wp2_with fail
    go_ret
    exact ⟨Below.refl _ _, _, _, rfl, Nat.le_refl _, by rw [List.eq_nil_of_length_eq_zero hl]; exact numsAt_nil _ _ _ _⟩
  | some x =>
    have hl := h.1
    have hcn : ∀ j u, (l.map (Value.int .u8))[j]? = some u → (w.alloc (.cells #[] 5)).cell? (x.add j) = some u := by
      intro j u hj
      have hjl : j < l.length := by
        rcases Nat.lt_or_ge j l.length with h | h
        · exact h
        · simp [List.getElem?_eq_none h] at hj
      obtain ⟨b, off, he, hb, _, hc⟩ := h.2.2 (by omega)
      obtain rfl : x = ⟨b, off, none⟩ := by simpa using he
      have ea : (⟨b, off, none⟩ : Addr).add j = ⟨b, off + j, none⟩ := by unfold Addr.add; split <;> simp_all
      rw [ea, World.cell?_alloc_past _ _ _ hb, hc j (by omega)]
      simp [hjl] at hj
      simp [List.getD, hjl, hj]
    have A := hid hcn
    have hwf := hid h.2.1
    replace hl := hid hl
    clear hcn h
    go_enter Tryz.func18, Tryz.ntmps18
    go_wp2_with (at_builtin; refine wpList_append_own _ rfl _ _ 28 rfl w.heap.size 5 i0 (.int .u8 0) 1 1 Tryz.underlying28 hi hz0 hz1 hz2 rfl (by decide) _ _ _ rfl (World.ownsRow_made w #[] 0 (Nat.le_refl _) (Nat.zero_le _) (by simp)) x n c (l.map (Value.int .u8)) rfl ?qc1 ?qc2 ?qc3 ?qc4 ?qc5 ?qc6 ?_)
    case qc1 => simp [hl.out]
    case qc2 => exact A.out
    case qc3 => intro u hu; simp at hu; obtain ⟨x, _, rfl⟩ := hu; rfl
    case qc4 => unfold maxLen; omega
    case qc5 => omega
    case qc6 => simp
    intro v' w1 hown hgrow hnil
    have hown' : w1.ownsRow w.heap.size 5 1 v' n (l.map (Value.int .u8)) := by simpa using hown
    have hbel := ((Below.refl _ w).alloc (Nat.le_refl _) _).grown hgrow (by simp) (by intro k hk; simp [Value.ownBlock] at hk; omega)
    clear hown hgrow A hnil
    obtain ⟨a', c', rfl, hnc, hN⟩ := numsAt_own hwf.out hown'
    replace hN := hid hN
    clear hown'
    go_wp2_with fail
    go_ret
    exact ⟨hbel, a', c', rfl, hnc, hN.out⟩

/-- what Over answers -/
def RetOv (base : Nat) (e : Ending) (w : World) (b : List Int) (at' : Int) (more : List Int) : Prop :=
  (∃ e' : Int, e = .returned (.tuple #[.slice none 0 0, .int .i64 e']) ∧ e' ≠ 0 ∧ ¬ (0 ≤ at' ∧ at' + (more.length : Int) ≤ 256)) ∨
  (∃ (x : Option Addr) (ln lc A : Nat), e = .returned (.tuple #[.slice x ln lc, .int .i64 0]) ∧ at' = (A : Int) ∧ A + more.length ≤ 256 ∧ ln ≤ lc ∧ NumsAt (fun q => base ≤ q) .u8 w x ln (overL b A more))

theorem over_row {w : World} {g M A base : Nat} {b more : List Int} (hb : Bytes b) (hm : Bytes more) (hne : more ≠ []) (hM : M = max b.length (A + more.length)) (hg : base ≤ g)
    (h : CellsAt w g (splice (splice ((zeros M).map (Value.int .u8)) 0 (b.map (Value.int .u8))) A (more.map (Value.int .u8))).toArray 5) : NumsAt (fun q => base ≤ q) .u8 w (some ⟨g, 0, none⟩) M (overL b A more) := by
  rw [map_splice, map_splice] at h
  have e : splice (splice (zeros M) 0 b) A more = overL b A more := by unfold overL; rw [if_neg hne, hM]
  rw [e] at h
  have hl : (overL b A more).length = M := by rw [overL_length, if_neg hne, hM]
  have := nums_of_cells (Q := fun q => base ≤ q) hg (overL_bytes (at' := A) hb hm) h
  rwa [hl] at this

set_option maxHeartbeats 4000000 in
set_option maxRecDepth 100000 in
theorem over_any (ba : Option Addr) (bn bc : Nat) (b : List Int) (at' : Int) (ma : Option Addr) (mn mc : Nat) (more : List Int) (w : World) (hbn : bn ≤ 256) (hb : NumsAt (fun _ => True) .u8 w ba bn b) (hm : NumsAt (fun _ => True) .u8 w ma mn more) :
    Calls Tryz.prog 164 #[.slice ba bn bc, .int .i64 at', .slice ma mn mc] w fun e w' => RetOv w.heap.size e w' b at' more ∧ Below w.heap.size w w' := by
  obtain ⟨i0, hi0, hz0, hz1, hz2⟩ := info_parts Tryz.infoByte
  have hml := hm.1
  have hbl := hb.1
  replace hb := hid hb
  replace hm := hid hm
  by_cases ha : 0 ≤ at' ∧ at' ≤ 256
  case neg =>
    go_enter Tryz.func164, Tryz.ntmps164
    go_wp2_with fail
    refine (isSize_no at' w ha).mono ?_
    rintro e w1 ⟨rfl, rfl⟩
    replace ha := hid ha
    go_wp2_with fail
    go_ret2
    exact ⟨.inl ⟨3, rfl, by omega, fun f => ha.out (by omega)⟩, Below.refl _ _⟩
  obtain ⟨A, rfl⟩ : ∃ A : Nat, at' = (A : Int) := ⟨at'.toNat, by omega⟩
  have hA : A ≤ 256 := by omega
  by_cases h2 : mn ≤ 256
  case neg =>
    have h2' : ¬ (0 ≤ (mn : Int) ∧ (mn : Int) ≤ 256) := by omega
    go_enter Tryz.func164, Tryz.ntmps164
    go_wp2_with fail
    refine (isSize_ok A w ha).mono ?_
    rintro e w1 ⟨rfl, rfl⟩
    go_wp2_with fail
    refine (isSize_no mn w1 h2').mono ?_
    rintro e w2 ⟨rfl, rfl⟩
    clear h2'
    go_wp2_with fail
    go_ret2
    exact ⟨.inl ⟨3, rfl, by omega, fun f => h2 (by omega)⟩, Below.refl _ _⟩
  have h2' : 0 ≤ (mn : Int) ∧ (mn : Int) ≤ 256 := by omega
  by_cases h3 : A + mn ≤ 256
  case neg =>
    go_enter Tryz.func164, Tryz.ntmps164
    go_wp2_with fail
    refine (isSize_ok A w ha).mono ?_
    rintro e w1 ⟨rfl, rfl⟩
    go_wp2_with fail
    refine (isSize_ok mn w1 h2').mono ?_
    rintro e w2 ⟨rfl, rfl⟩
    have h3' : (256 : Int) < (A : Int) + (mn : Int) := by omega
    go_wp2_with fail
    go_ret2
    exact ⟨.inl ⟨8, rfl, by omega, fun f => h3 (by omega)⟩, Below.refl _ _⟩
  have h3' : ¬ (256 : Int) < (A : Int) + (mn : Int) := by omega
  by_cases h4 : mn = 0
  · subst h4
    obtain rfl : more = [] := List.eq_nil_of_length_eq_zero hml
    go_enter Tryz.func164, Tryz.ntmps164
    go_wp2_with fail
    refine (isSize_ok A w ha).mono ?_
    rintro e w1 ⟨rfl, rfl⟩
    go_wp2_with fail
    refine (isSize_ok 0 w1 h2').mono ?_
    rintro e w2 ⟨rfl, rfl⟩
    go_wp2_with fail
    refine (cloneRow_any ba bn bc b (fun _ => True) w2 (by omega) hb.out).mono ?_
    rintro e w3 ⟨b3, x, lc, rfl, hlc, hN⟩
    replace hN := hid hN
    go_wp2_with fail
    go_ret2
    exact ⟨.inr ⟨x, bn, lc, A, rfl, rfl, by simpa using hA, hlc, by simpa [overL] using hN.out⟩, b3⟩
  have h4' : ((mn : Int) == 0) = false := by simp [h4]
  have hne : Hid (more ≠ []) := hid fun f => h4 (by rw [← hml, f]; rfl)
  obtain ⟨M, hM⟩ : ∃ M, M = max bn (A + mn) := ⟨_, rfl⟩
  have hMm : Hid (M = max b.length (A + more.length)) := hid (by rw [hbl, hml]; exact hM)
  have hM256 : M ≤ 256 := by omega
  have hMb : bn ≤ M := by omega
  have hMa : A + mn ≤ M := by omega
  have fin : Hid (∀ w', CellsAt w' w.heap.size (splice (splice ((zeros M).map (Value.int .u8)) 0 (b.map (Value.int .u8))) A (more.map (Value.int .u8))).toArray 5 → RetOv w.heap.size (.returned (.tuple #[.slice (some ⟨w.heap.size, 0, none⟩) M M, .int .i64 0])) w' b A more) := hid fun w' h => .inr ⟨_, M, M, A, rfl, rfl, by omega, Nat.le_refl _, over_row hb.out.bytes hm.out.bytes hne.out hMm.out (Nat.le_refl _) h⟩
  have hzl : Hid (((zeros M).map (Value.int .u8)).length = M) := hid (by rw [List.length_map, zeros_length])
  have hbX : Hid ((b.map (Value.int .u8)).length = bn) := hid (by rw [List.length_map, hbl])
  have hmX : Hid ((more.map (Value.int .u8)).length = mn) := hid (by rw [List.length_map, hml])
  have h1b := hid (one_map b)
  have h1m := hid (one_map more)
  have hsb : Hid (∀ w', Below w.heap.size w w' → 0 < bn → ∃ ad, ba = some ad ∧ ∀ j v, (b.map (Value.int .u8))[j]? = some v → w'.cell? (ad.add j) = some v) := hid fun w' hw hp => by
    have := hb.out.below hw
    obtain ⟨q, off, rfl, _⟩ := this.2.2 hp
    exact ⟨_, rfl, src_map this hp⟩
  have hsm : Hid (∀ w', Below w.heap.size w w' → 0 < mn → ∃ ad, ma = some ad ∧ ∀ j v, (more.map (Value.int .u8))[j]? = some v → w'.cell? (ad.add j) = some v) := hid fun w' hw hp => by
    have := hm.out.below hw
    obtain ⟨q, off, rfl, _⟩ := this.2.2 hp
    exact ⟨_, rfl, src_map this hp⟩
  have hmx : (if (bn : Int) < (A : Int) + (mn : Int) then (A : Int) + (mn : Int) else (bn : Int)) = (M : Int) := by split <;> omega
  clear hb hm hml hbl hMm hne hmx
  replace hM := hid hM
  go_enter Tryz.func164, Tryz.ntmps164
  go_wp2_with fail
  refine (isSize_ok A w ha).mono ?_
  rintro e w1 ⟨rfl, rfl⟩
  go_wp2_with fail
  refine (isSize_ok mn w1 h2').mono ?_
  rintro e w2 ⟨rfl, rfl⟩
  clear ha h2'
  by_cases hmax : (bn : Int) < (A : Int) + (mn : Int)
  all_goals (
    go_wp2_with (at_make; refine wpList_make_full _ rfl (.tmp 34) (.tmp 34) 28 rfl w2.heap.size 5 i0 (.int .u8 0) 1 Tryz.underlying28 hi0 hz0 hz1 .i64 .i64 _ _ M rfl rfl (by have := hM.out; omega) (by have := hM.out; omega) (by rw [hz2]; omega) (by unfold maxLen; omega) (Nat.le_refl _) ?_; intro w4 hown hgr; have hc4 := made_zero hown; have b4 : Below w2.heap.size w2 w4 := ⟨hgr.os, hgr.tape, hgr.output, hgr.size, fun k hk => hgr.block k hk (by simp)⟩; clear hown hgr; obtain ⟨w5, hr5, hc5, b5⟩ := copy_run (off := 0) (dLen := M) (dCap := M) (sLen := bn) (sCap := bc) (m := bn) _ _ hc4 hbX.out (show bn = min bn M by omega) (hsb.out w4 b4) (by rw [hzl.out]; omega) h1b.out b4 (Nat.le_refl _); clear hc4 b4; have hl5 : (splice ((zeros M).map (Value.int .u8)) 0 (b.map (Value.int .u8))).length = M := (by rw [length_splice _ _ _ (by rw [hzl.out, hbX.out]; omega), hzl.out]); obtain ⟨w6, hr6, hc6, b6⟩ := copy_run (off := A) (dLen := M - A) (dCap := M - A) (sLen := mn) (sCap := mc) (m := mn) _ _ hc5 hmX.out (show mn = min mn (M - A) by omega) (hsm.out w5 b5) (by rw [hl5]; omega) h1m.out b5 (Nat.le_refl _); replace hc6 := hid (fin.out w6 hc6); replace b6 := hid b6; clear hc5 b5 hl5)
    go_ret2
    exact ⟨hc6.out, b6.out⟩)
end Go.Proofs.YtmpedoklljhdbaaGreat

namespace Go.Proofs.YtmpedoklljhdbaaGreat
open Go.RowKit

/-- what Put answers, of a store in which nothing is held more often than cc -/
def RetPutO (base : Nat) (e : Ending) (w : World) (n : Nat) (B : Nat → Blk) (root lv i : Int) (bs : List Int) (cc : Int) : Prop :=
  (∃ e' : Int, e = .returned (.tuple #[.agg #[.slice none 0 0], .int .i64 0, .int .i64 e']) ∧ e' ≠ 0 ∧ (Checked n B root lv i → bs = [] ∨ bs.length = 4 → e' = 8 ∧ (n : Int) ≤ usedTo B n + lv)) ∨
  (∃ (l j : Nat) (C : Nat → Blk) (a : Int) (g : Nat), e = .returned (.tuple #[.agg #[.slice (some ⟨g, 0, none⟩) n n], .int .i64 a, .int .i64 0]) ∧ lv = l ∧ i = j ∧ l ≤ 3 ∧ j < pw l ∧ Right n B ∧ Root n B l root ∧ (bs = [] ∨ bs.length = 4) ∧ PutOk n B l root j bs cc C a ∧
    base ≤ g ∧ Own w g n C)

set_option maxHeartbeats 4000000 in
set_option maxRecDepth 100000 in
theorem treePutO_any (a : Option Addr) (n c : Nat) (B : Nat → Blk) (root lv i : Int) (ba : Option Addr) (bn bc : Nat) (bs : List Int) (cc : Int) (w : World) (h : StoreAt w a n B) (hb : NumsAt (fun _ => True) .u8 w ba bn bs) (hbc : bn ≤ bc) (h1 : 1 ≤ cc) (hcm : cc ≤ 999984) (hc : ∀ k, k < n → (B k).refs ≤ cc) :
    Calls Tryz.prog 205 #[.agg #[.slice a n c], .int .i64 root, .int .i64 lv, .int .i64 i, .slice ba bn bc] w fun e w' => RetPutO w.heap.size e w' n B root lv i bs cc ∧ Below w.heap.size w w' := by
  have b0 := (below_alloc w (.cells #[.slice a n c] 24)).alloc (by simp) (.cells #[.slice none 0 0] 24)
  have ks : CellsAt _ w.heap.size #[.slice a n c] 24 := (cellsAt_alloc w _ _).below (below_alloc _ (.cells #[.slice none 0 0] 24))
  have kr : CellsAt _ (w.heap.size + 1) #[.slice none 0 0] 24 := cellsAt_alloc2 w (.cells #[.slice a n c] 24) _ _
  have hsz : w.heap.size + 2 = ((w.alloc (.cells #[.slice a n c] 24)).alloc (.cells #[.slice none 0 0] 24)).heap.size := by simp
  have hP : PtrAt _ ⟨w.heap.size, 0, none⟩ a n c B := (ptr_boxed a n c B w 24 h).below (below_alloc _ (.cells #[.slice none 0 0] 24))
  replace hb := hid (hb.below b0)
  replace hP := hid hP
  replace ks := hid ks
  replace kr := hid kr
  replace hsz := hid hsz
  replace hc := hid hc
  clear h
  go_enter Tryz.func205, Tryz.ntmps205
  go_wp2_with fail
  generalize (w.alloc (.cells #[.slice a n c] 24)).alloc (.cells #[.slice none 0 0] 24) = w0 at *
  refine (treeCheck_any ⟨w.heap.size, 0, none⟩ a n c B root lv i w0 hP.out).mono ?_
  rintro e w1 ⟨⟨e1, rfl, he⟩, b1⟩
  have hsz1 : Hid (w.heap.size + 2 ≤ w1.heap.size) := hid (by have := hsz.out; have := b1.size; omega)
  replace hb := hid (hb.out.below b1)
  replace hP := hid (hP.out.below b1)
  replace ks := hid (ks.out.below b1)
  replace kr := hid (kr.out.below b1)
  replace b1 := Below.tr b0 b1
  clear b0 hsz
  by_cases h0 : e1 = 0
  · have h0' : (e1 == 0) = true := by simp [h0]
    obtain ⟨hR, l, hl, rfl, hr, hi0, hi1⟩ := he.1 h0
    obtain ⟨j, rfl⟩ : ∃ j : Nat, i = (j : Int) := ⟨i.toNat, by omega⟩
    have hj : j < pw l := by omega
    have hn := hR.small
    clear he hi0 hi1
    have hbl := hb.out.1
    by_cases hbs : bs = [] ∨ bs.length = 4
    · have hbn : bn = 0 ∨ bn = 4 := by
        rcases hbs with h | h
        · left; rw [← hbl, h]; rfl
        · right; rw [← hbl, h]
      have hF : ∀ i, i < n → (B i).kids.length ≤ 4 ∧ (B i).bytes.length ≤ 4 := fun i hi => ⟨(hR.one i hi).few, (hR.one i hi).few2⟩
      replace hF := hid hF
      replace hbs := hid hbs
      replace hR := hid hR
      replace hr := hid hr
      have hs1 := hP.out.cell
      clear hbl
      rcases hbn with rfl | rfl
      all_goals (
        go_wp2_with fail
        refine (copy_any ⟨w.heap.size, 0, none⟩ a n c B w1 hP.out hn hF.out).mono ?_
        rintro e w2 ⟨b2, g, rfl, hg, hOwn⟩
        have hsz2 := hsz1.out
        have hOl := hOwn.lt
        have k2 := cellsAt_alloc w2 #[.slice (some ⟨g, 0, none⟩) n n] 24
        have b3 := below_alloc w2 (.cells #[.slice (some ⟨g, 0, none⟩) n n] 24)
        have hP3 : OwnPtr (w2.alloc (.cells #[.slice (some ⟨g, 0, none⟩) n n] 24)) ⟨w2.heap.size, 0, none⟩ g n B := ⟨k2.lt, by show w2.heap.size ≠ g; omega, by simp, hOwn.below b3⟩
        have hb3 := ((hb.out.weaken (R := fun b => b ≠ g) (fun b h _ => by omega)).below b2).below b3
        have kr3 := (kr.out.below b2).below b3
        have b13 := Below.tr (Below.tr b1 b2) b3
        replace hP3 := hid hP3
        replace hb3 := hid hb3
        replace kr3 := hid kr3
        replace b13 := hid b13
        clear hOwn hb hP ks kr b1 b2 b3 k2 hs1
        go_wp2_with fail
        generalize w2.alloc (.cells #[.slice (some ⟨g, 0, none⟩) n n] 24) = w3 at *
        refine (put_any ⟨w2.heap.size, 0, none⟩ g n ba _ bc bs cc hbs.out hbc h1 hcm l B root j w3 hl hR.out hr.out hj hc.out hP3.out hb3.out).mono ?_
        rintro e w4 ⟨hD, hO, hFr⟩
        have hsz3 := b13.out.size
        have kr4 : CellsAt w4 (w.heap.size + 1) #[.slice none 0 0] 24 := (by unfold CellsAt; rw [hO.block _ kr3.out.lt (by omega)]; exact kr3.out)
        have r0 := kr4.cell 0
        have r1 := kr4.frozen 0
        simp at r0
        have b4 := b13.out.trans (hO.below (B := w.heap.size) (by omega) (by omega))
        clear hO hFr
        rcases hD with ⟨e', rfl, he, rfl, hus⟩ | ⟨C, a, rfl, hPk, hC⟩
        · go_wp2_with fail
          refine bodyPost_ret (v := .tuple #[.agg #[.slice none 0 0], .int .i64 0, .int .i64 8]) (by rw [results_cell_tmps rfl]; go_simp) rfl ⟨.inl ⟨8, rfl, by omega, fun _ _ => ⟨rfl, by omega⟩⟩, b4.setCell (by simp) _⟩
        · have s4 := hC.cell
          have kk := Kept.setCell (g := w.heap.size + 1) (Kept.refl _ w4) (p := ⟨w.heap.size + 1, 0, none⟩) rfl (.slice (some ⟨g, 0, none⟩) n n)
          have hB5 : Own (w4.setCell ⟨w.heap.size + 1, 0, none⟩ (.slice (some ⟨g, 0, none⟩) n n)) g n C := ⟨by rw [kk.size]; exact hC.own.lt, hC.own.blocks.kept (by omega) (fun b h => by omega) kk, fun i hi => (kk.frozen (p := ⟨g, i, none⟩) (by show g ≠ _; omega)).trans (hC.own.free i hi)⟩
          replace hB5 := hid hB5
          replace hPk := hid hPk
          replace hC := hid hC
          go_wp2_with fail
          refine bodyPost_ret (v := .tuple #[.agg #[.slice (some ⟨g, 0, none⟩) n n], .int .i64 a, .int .i64 0]) (by rw [results_cell_tmps rfl]; go_simp) rfl ⟨.inr ⟨l, j, C, a, g, rfl, rfl, rfl, hl, hj, hR.out, hr.out, hbs.out, hPk.out, by omega, hB5.out⟩, b4.setCell (by simp) _⟩)
    · have hbn0 : ((bn : Int) == 0) = false := by simp; intro h; exact hbs (.inl (List.eq_nil_of_length_eq_zero (by omega)))
      have hbn4 : ((bn : Int) == 4) = false := by simp; intro h; exact hbs (.inr (by omega))
      have r0 := kr.out.cell 0
      have r1 := kr.out.frozen 0
      simp at r0
      have hbn0' : ¬ bn = 0 := by simp at hbn0; omega
      have hbn4' : ¬ bn = 4 := by simp at hbn4; omega
      have hbn1 : ((bn : Int) != 0) = true := by simp; omega
      have hbn2 : ((bn : Int) != 4) = true := by simp; omega
      replace hbs := hid hbs
      go_wp2_with fail
      refine bodyPost_ret (v := .tuple #[.agg #[.slice none 0 0], .int .i64 0, .int .i64 2]) (by rw [results_cell_tmps rfl]; go_simp) rfl ⟨.inl ⟨2, rfl, by omega, fun _ f => absurd f hbs.out⟩, b1.setCell (by simp) _⟩
  · have h0' : (e1 == 0) = false := by simp [h0]
    have hno : Hid (¬ Checked n B root lv i) := hid (fun f => h0 (he.2 f))
    have r0 := kr.out.cell 0
    have r1 := kr.out.frozen 0
    simp at r0
    clear he
    go_wp2_with fail
    refine bodyPost_ret (v := .tuple #[.agg #[.slice none 0 0], .int .i64 0, .int .i64 e1]) (by rw [results_cell_tmps rfl]; go_simp) rfl ⟨.inl ⟨e1, rfl, h0, fun f => absurd f hno.out⟩, b1.setCell (by simp) _⟩
end Go.Proofs.YtmpedoklljhdbaaGreat

namespace Go.Proofs.YtmpedoklljhdbaaGreat
open Go.RowKit

/-- what turnLeaf makes -/
def LeafTurned (n : Nat) (C : Nat → Blk) (key root : Int) (i : Nat) (p : List Int) (cc : Int) (E : Nat → Blk) (a' : Int) : Prop :=
  ∃ D, PutOk n C 3 root i (leafFor key i p) cc D a' ∧ ((root = 0 ∧ E = D) ∨ (∃ m : Nat, root = (m : Int) + 1 ∧ Right n E ∧ Fell n D E [(m : Int) + 1]))
/-- what turnLeaf answers -/
def RetTL (base : Nat) (e : Ending) (w : World) (n : Nat) (C : Nat → Blk) (key root : Int) (i : Nat) (p : List Int) (cc : Int) : Prop :=
  ∃ (x : Option Addr) (ln lc : Nat) (a' e' : Int), e = .returned (.tuple #[.agg #[.slice x ln lc], .int .i64 a', .int .i64 e']) ∧
    ((x = none ∧ ln = 0 ∧ lc = 0 ∧ a' = 0 ∧ e' = 8 ∧ n ≤ usedTo C n + 3) ∨ (e' = 0 ∧ ∃ (g : Nat) (E : Nat → Blk), x = some ⟨g, 0, none⟩ ∧ ln = n ∧ lc = n ∧ LeafTurned n C key root i p cc E a' ∧ base ≤ g ∧ Own w g n E))

theorem Own.kept {w w' : World} {g n q : Nat} {B : Nat → Blk} (h : Own w g n B) (hq : q < g) (hk : Kept q w w') : Own w' g n B :=
  ⟨by rw [hk.size]; exact h.lt, h.blocks.kept (by omega) (fun b h => by omega) hk, fun i hi => (hk.frozen (p := ⟨g, i, none⟩) (by show g ≠ _; omega)).trans (h.free i hi)⟩

set_option maxHeartbeats 4000000 in
set_option maxRecDepth 100000 in
theorem turnLeaf_any (a : Option Addr) (n c : Nat) (C : Nat → Blk) (key root : Int) (i : Nat) (ba : Option Addr) (bc : Nat) (p : List Int) (cc : Int) (w : World) (h : StoreAt w a n C) (hR : Right n C) (hr : Root n C 3 root) (hi : i < 64) (hk : 0 ≤ key ∧ key ≤ 1000)
    (hp : NumsAt (fun _ => True) .u8 w ba 4 p) (h1 : 1 ≤ cc) (hcm : cc ≤ 999984) (hc : ∀ k, k < n → (C k).refs ≤ cc) (hd : ∀ (m : Nat) (D : Nat → Blk) (a' : Int), root = (m : Int) + 1 → PutOk n C 3 root i (leafFor key i p) cc D a' → Droppable n D ((m : Int) + 1)) :
    Calls Tryz.prog 191 #[.agg #[.slice a n c], .int .i64 key, .int .i64 root, .int .i64 i, .slice ba 4 bc] w fun e w' => RetTL w.heap.size e w' n C key root i p cc ∧ Below w.heap.size w w' := by
  have b0 := below_two w (.cells #[.slice a n c] 24) (.cells #[.slice none 0 0] 24)
  have ks : CellsAt _ w.heap.size #[.slice a n c] 24 := (cellsAt_alloc w _ _).below (below_alloc _ (.cells #[.slice none 0 0] 24))
  have kr : CellsAt _ (w.heap.size + 1) #[.slice none 0 0] 24 := cellsAt_alloc2 w (.cells #[.slice a n c] 24) _ _
  have hsz : w.heap.size + 2 = ((w.alloc (.cells #[.slice a n c] 24)).alloc (.cells #[.slice none 0 0] 24)).heap.size := by simp
  have hp4 := hp.1
  have h04 := hid (leafFor_04 (key := key) (i := i) hp4)
  have hch : Hid (Checked n C root 3 i) := hid ⟨hR, 3, by omega, rfl, hr, by omega, by show (i : Int) < ((64 : Nat) : Int); omega⟩
  have hrd : root = 0 ∨ ∃ m : Nat, root = (m : Int) + 1 := by
    rcases hr with h0 | ⟨⟨h1, _, _⟩, _⟩
    · exact .inl h0
    · exact .inr ⟨(root - 1).toNat, by omega⟩
  replace hrd := hid hrd
  replace b0 := hid b0
  replace ks := hid ks
  replace kr := hid kr
  replace hsz := hid hsz
  replace h := hid h
  replace hp := hid hp
  replace hc := hid hc
  replace hd := hid hd
  replace hk := hid hk
  clear hR hr
  go_enter Tryz.func191, Tryz.ntmps191
  go_wp2_with fail
  generalize (w.alloc (.cells #[.slice a n c] 24)).alloc (.cells #[.slice none 0 0] 24) = w0 at *
  refine (isNoughts_any ba 4 bc p (fun _ => True) w0 (by omega) (hp.out.below b0.out)).mono ?_
  rintro e w1 ⟨⟨rfl, hz⟩ | ⟨rfl, hz⟩, rfl⟩
  · have hLf : Hid (NumsAt (fun _ => True) .u8 w1 none 0 (leafFor key i p)) := hid (by
      have e : leafFor key i p = [] := by unfold leafFor; rw [if_pos (four_zero hp4 hz)]
      rw [e]; exact numsAt_nil _ _ _ _)
    have s0 := ks.out.cell 0
    simp at s0
    replace hsz : Hid (w.heap.size + 2 ≤ w1.heap.size) := hid (Nat.le_of_eq hsz.out)
    clear hz hp
    go_wp2_with fail
    refine (treePutO_any a n c C root 3 i _ _ _ (leafFor key i p) cc _ (h.out.below b0.out) hLf.out (Nat.le_refl _) h1 hcm hc.out).mono ?_
    rintro e w3 ⟨hP, b3⟩
    have hg0 := hsz.out
    have hsz3 := b3.size
    replace kr := hid (kr.out.below b3)
    have b03 := Below.tr b0.out b3
    clear hLf s0 ks b0 hsz
    rcases hP with ⟨e', rfl, he, hfull⟩ | ⟨l, j, D, a', g, rfl, hl3, hij, hl, hj, _, _, _, hPut, hg, hOwn⟩
    · obtain ⟨rfl, hfu⟩ := hfull hch.out h04.out
      have bA := below_alloc w3 (.cells #[.slice none 0 0] 24)
      have krA := kr.out.below bA
      have r0 := krA.cell 0
      have r1 := krA.frozen 0
      have b04 := hid (Below.tr b03 bA)
      have hfu' : Hid (n ≤ usedTo C n + 3) := hid (by omega)
      clear hfull he bA krA b3 hfu b03
      go_wp2_with fail
      refine bodyPost_ret (v := .tuple #[.agg #[.slice none 0 0], .int .i64 0, .int .i64 8]) (by rw [results_cell_tmps rfl]; go_simp) rfl ⟨⟨none, 0, 0, 0, 8, rfl, .inl ⟨rfl, rfl, rfl, rfl, rfl, hfu'.out⟩⟩, b04.out.setCell (by simp) _⟩
    · obtain rfl : j = i := by omega
      obtain rfl : l = 3 := by omega
      have bA := below_alloc w3 (.cells #[.slice (some ⟨g, 0, none⟩) n n] 24)
      have kA := cellsAt_alloc w3 #[.slice (some ⟨g, 0, none⟩) n n] 24
      have hgl := hOwn.lt
      have hOA := hOwn.below bA
      have krA := kr.out.below bA
      have b04 := Below.tr b03 bA
      replace hPut := hid hPut
      clear hl3 hij hj hl bA hOwn b03 b3 hsz3
      rcases hrd.out with h0 | ⟨m, h0⟩
      · subst h0
        have r0 := krA.cell 0
        have r1 := krA.frozen 0
        have kk := Kept.setCell (g := w.heap.size + 1) (Kept.refl _ (w3.alloc (.cells #[.slice (some ⟨g, 0, none⟩) n n] 24))) (p := ⟨w.heap.size + 1, 0, none⟩) rfl (.slice (some ⟨g, 0, none⟩) n n)
        have hfin := hid (hOA.kept (by omega) kk)
        replace b04 := hid b04
        clear kA krA hOA kk
        go_wp2_with fail
        refine bodyPost_ret (v := .tuple #[.agg #[.slice (some ⟨g, 0, none⟩) n n], .int .i64 a', .int .i64 0]) (by rw [results_cell_tmps rfl]; go_simp) rfl ⟨⟨_, n, n, a', 0, rfl, .inr ⟨rfl, g, D, rfl, rfl, rfl, ⟨D, hPut.out, .inl ⟨rfl, rfl⟩⟩, by omega, hfin.out⟩⟩, b04.out.setCell (by simp) _⟩
      · subst h0
        have hm0 : (((m : Int) + 1) == 0) = false := by simp; omega
        have hP : OwnPtr (w3.alloc (.cells #[.slice (some ⟨g, 0, none⟩) n n] 24)) ⟨w3.heap.size, 0, none⟩ g n D := ⟨kA.lt, by show w3.heap.size ≠ g; omega, by simp, hOA⟩
        have hdr := hid (hd.out m D a' rfl hPut.out)
        replace hP := hid hP
        replace krA := hid krA
        replace b04 := hid b04
        clear hOA kA
        go_wp2_with fail
        generalize w3.alloc (.cells #[.slice (some ⟨g, 0, none⟩) n n] 24) = w4 at *
        refine (drop_any ⟨w3.heap.size, 0, none⟩ g n D ((m : Int) + 1) w4 hP.out).mono ?_
        rintro e w5 ⟨hD, hO⟩
        rcases hD with ⟨e', _, _, hno⟩ | ⟨rfl, _, E, hE, hRE, hFE⟩
        · exact absurd hdr.out hno
        have kr5 : CellsAt w5 (w.heap.size + 1) #[.slice none 0 0] 24 := (by unfold CellsAt; rw [hO.block _ krA.out.lt (by omega)]; exact krA.out)
        have r0 := kr5.cell 0
        have r1 := kr5.frozen 0
        have s5 := hE.cell
        simp at r0
        have kk := Kept.setCell (g := w.heap.size + 1) (Kept.refl _ w5) (p := ⟨w.heap.size + 1, 0, none⟩) rfl (.slice (some ⟨g, 0, none⟩) n n)
        have hfin := hid (hE.own.kept (by omega) kk)
        have b5 := hid (b04.out.trans (hO.below (B := w.heap.size) (by omega) (by have := b04.out.size; omega)))
        replace hRE := hid hRE
        replace hFE := hid hFE
        clear hO hE kk kr5
        go_wp2_with fail
        refine bodyPost_ret (v := .tuple #[.agg #[.slice (some ⟨g, 0, none⟩) n n], .int .i64 a', .int .i64 0]) (by rw [results_cell_tmps rfl]; go_simp) rfl ⟨⟨_, n, n, a', 0, rfl, .inr ⟨rfl, g, E, rfl, rfl, rfl, ⟨D, hPut.out, .inr ⟨m, rfl, hRE.out, hFE.out⟩⟩, by omega, hfin.out⟩⟩, b5.out.setCell (by simp) _⟩
  · have hne : Hid (p ≠ [0, 0, 0, 0]) := hid fun f => hz (by rw [f]; intro x hx; simp at hx; exact hx)
    clear hz
    go_wp2_with fail
    refine (seal_ok key _ ba 4 bc p w1 (sealPlace_keyB hk.out hi) (by omega) (hp.out.below b0.out).bytesAt).mono ?_
    rintro e w2 ⟨g2, rfl, hB2, b2⟩
    rw [sealPlace_eq i] at hB2
    have hLf : Hid (NumsAt (fun _ => True) .u8 w2 (some ⟨g2, 0, none⟩) 4 (leafFor key i p)) := hid (by
      have e : leafFor key i p = sealL key (sealPlace i) p := by unfold leafFor; rw [if_neg hne.out]
      rw [e]; exact hB2.nums)
    replace ks := hid (ks.out.below b2)
    replace kr := hid (kr.out.below b2)
    replace hsz : Hid (w.heap.size + 2 ≤ w2.heap.size) := hid (Nat.le_trans (Nat.le_of_eq hsz.out) b2.size)
    replace b0 := hid (Below.tr b0.out b2)
    have s0 := ks.out.cell 0
    simp at s0
    clear hB2 b2 hp hne
    go_wp2_with fail
    refine (treePutO_any a n c C root 3 i _ _ _ (leafFor key i p) cc _ (h.out.below b0.out) hLf.out (Nat.le_refl _) h1 hcm hc.out).mono ?_
    rintro e w3 ⟨hP, b3⟩
    have hg0 := hsz.out
    have hsz3 := b3.size
    replace kr := hid (kr.out.below b3)
    have b03 := Below.tr b0.out b3
    clear hLf s0 ks b0 hsz
    rcases hP with ⟨e', rfl, he, hfull⟩ | ⟨l, j, D, a', g, rfl, hl3, hij, hl, hj, _, _, _, hPut, hg, hOwn⟩
    · obtain ⟨rfl, hfu⟩ := hfull hch.out h04.out
      have bA := below_alloc w3 (.cells #[.slice none 0 0] 24)
      have krA := kr.out.below bA
      have r0 := krA.cell 0
      have r1 := krA.frozen 0
      have b04 := hid (Below.tr b03 bA)
      have hfu' : Hid (n ≤ usedTo C n + 3) := hid (by omega)
      clear hfull he bA krA b3 hfu b03
      go_wp2_with fail
      refine bodyPost_ret (v := .tuple #[.agg #[.slice none 0 0], .int .i64 0, .int .i64 8]) (by rw [results_cell_tmps rfl]; go_simp) rfl ⟨⟨none, 0, 0, 0, 8, rfl, .inl ⟨rfl, rfl, rfl, rfl, rfl, hfu'.out⟩⟩, b04.out.setCell (by simp) _⟩
    · obtain rfl : j = i := by omega
      obtain rfl : l = 3 := by omega
      have bA := below_alloc w3 (.cells #[.slice (some ⟨g, 0, none⟩) n n] 24)
      have kA := cellsAt_alloc w3 #[.slice (some ⟨g, 0, none⟩) n n] 24
      have hgl := hOwn.lt
      have hOA := hOwn.below bA
      have krA := kr.out.below bA
      have b04 := Below.tr b03 bA
      replace hPut := hid hPut
      clear hl3 hij hj hl bA hOwn b03 b3 hsz3
      rcases hrd.out with h0 | ⟨m, h0⟩
      · subst h0
        have r0 := krA.cell 0
        have r1 := krA.frozen 0
        have kk := Kept.setCell (g := w.heap.size + 1) (Kept.refl _ (w3.alloc (.cells #[.slice (some ⟨g, 0, none⟩) n n] 24))) (p := ⟨w.heap.size + 1, 0, none⟩) rfl (.slice (some ⟨g, 0, none⟩) n n)
        have hfin := hid (hOA.kept (by omega) kk)
        replace b04 := hid b04
        clear kA krA hOA kk
        go_wp2_with fail
        refine bodyPost_ret (v := .tuple #[.agg #[.slice (some ⟨g, 0, none⟩) n n], .int .i64 a', .int .i64 0]) (by rw [results_cell_tmps rfl]; go_simp) rfl ⟨⟨_, n, n, a', 0, rfl, .inr ⟨rfl, g, D, rfl, rfl, rfl, ⟨D, hPut.out, .inl ⟨rfl, rfl⟩⟩, by omega, hfin.out⟩⟩, b04.out.setCell (by simp) _⟩
      · subst h0
        have hm0 : (((m : Int) + 1) == 0) = false := by simp; omega
        have hP : OwnPtr (w3.alloc (.cells #[.slice (some ⟨g, 0, none⟩) n n] 24)) ⟨w3.heap.size, 0, none⟩ g n D := ⟨kA.lt, by show w3.heap.size ≠ g; omega, by simp, hOA⟩
        have hdr := hid (hd.out m D a' rfl hPut.out)
        replace hP := hid hP
        replace krA := hid krA
        replace b04 := hid b04
        clear hOA kA
        go_wp2_with fail
        generalize w3.alloc (.cells #[.slice (some ⟨g, 0, none⟩) n n] 24) = w4 at *
        refine (drop_any ⟨w3.heap.size, 0, none⟩ g n D ((m : Int) + 1) w4 hP.out).mono ?_
        rintro e w5 ⟨hD, hO⟩
        rcases hD with ⟨e', _, _, hno⟩ | ⟨rfl, _, E, hE, hRE, hFE⟩
        · exact absurd hdr.out hno
        have kr5 : CellsAt w5 (w.heap.size + 1) #[.slice none 0 0] 24 := (by unfold CellsAt; rw [hO.block _ krA.out.lt (by omega)]; exact krA.out)
        have r0 := kr5.cell 0
        have r1 := kr5.frozen 0
        have s5 := hE.cell
        simp at r0
        have kk := Kept.setCell (g := w.heap.size + 1) (Kept.refl _ w5) (p := ⟨w.heap.size + 1, 0, none⟩) rfl (.slice (some ⟨g, 0, none⟩) n n)
        have hfin := hid (hE.own.kept (by omega) kk)
        have b5 := hid (b04.out.trans (hO.below (B := w.heap.size) (by omega) (by have := b04.out.size; omega)))
        replace hRE := hid hRE
        replace hFE := hid hFE
        clear hO hE kk kr5
        go_wp2_with fail
        refine bodyPost_ret (v := .tuple #[.agg #[.slice (some ⟨g, 0, none⟩) n n], .int .i64 a', .int .i64 0]) (by rw [results_cell_tmps rfl]; go_simp) rfl ⟨⟨_, n, n, a', 0, rfl, .inr ⟨rfl, g, E, rfl, rfl, rfl, ⟨D, hPut.out, .inr ⟨m, rfl, hRE.out, hFE.out⟩⟩, by omega, hfin.out⟩⟩, b5.out.setCell (by simp) _⟩
end Go.Proofs.YtmpedoklljhdbaaGreat
