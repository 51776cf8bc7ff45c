/-
  The walk of the law FileFresh out of contracts. Nothing here is trusted.
-/
import Derived.Test.YtaagnojdpediladFileK
set_option linter.unusedVariables false
namespace Go.Proofs.Ytaagnojdpedilad
open Go.RowKit

theorem store_bytes {w : World} {a : Option Addr} {n : Nat} {B : Nat → Blk} (h : StoreAt w a n B) : ∀ i, i < n → Bytes (B i).bytes := fun i hi => by
  obtain ⟨b, off, rfl, hlt, hB⟩ := h (by omega)
  obtain ⟨ka, kn, kc, ba, bn, bc, hb⟩ := hB i hi
  exact hb.bytes.bytes
theorem leaf_bytes {n : Nat} {B : Nat → Blk} (hR : Right n B) (hb : ∀ i, i < n → Bytes (B i).bytes) : ∀ (l : Nat) (a : Int), Root n B l a → ∀ i, i < pw l → Bytes (leafAt B l a i)
  | 0, a, ha, i, _ => by
    simp only [leafAt, bytesL]
    rcases ha with h0 | ⟨⟨h1, h2, _⟩, _⟩
    · rw [if_pos h0]; intro x hx; cases hx
    · rw [if_neg (by omega)]; exact hb _ (ix h1 h2).1
  | l + 1, a, ha, i, hi => by
    have hp := pw_pos l
    have hd : i / pw l < 4 := by simp only [pw] at hi; exact Nat.div_lt_of_lt_mul (by rw [Nat.mul_comm]; exact hi)
    simp only [leafAt]
    exact leaf_bytes hR hb l _ (ha.kidAt hR hd) _ (Nat.mod_lt _ hp)
theorem diffs_none {B : Nat → Blk} {l : Nat} {x y : Int} {first : Nat} (h : ∀ j, j < pw l → leafAt B l x j = leafAt B l y j) : diffs B l x y first = [] := by
  unfold diffs diffTo
  rw [List.filter_eq_nil_iff.2 (fun j hj => by simp [h j (List.mem_range.1 hj)])]
  rfl
theorem chunk_zeros {i : Nat} (hi : i < 64) : chunk (zeros 256) i = [0, 0, 0, 0] := by
  apply list_ext_getD
  · rw [chunk_length (zeros_length _) hi]; rfl
  · intro j hj
    rw [chunk_length (zeros_length _) hi] at hj
    rw [chunk_getD _ _ _ hj, zeros_getD, zero4_getD]
/-- a file that is written anew has the same leaves -/
theorem fresh_leaf {n : Nat} {B : Nat → Blk} {key fr size : Int} (hok : FileOk n B key fr size) (hb : ∀ i, i < n → Bytes (B i).bytes) (i : Nat) (hi : i < 64) : newLeaf key (leafAt B 3 0) (zeros 256) (fileL key (leafAt B 3 fr)) i = leafAt B 3 fr i := by
  have h1 := chunk_fileL key (leafAt B 3 fr) hi (hok.leaf04 i hi)
  unfold newLeaf
  rw [chunk_zeros hi, h1, leafAt_zero B 3 i hi]
  split
  · rename_i e
    rcases hok.form i hi with h | h
    · exact h.symm
    · exact absurd e.symm h
  · exact leafFor_plain (hok.form i hi) (leaf_bytes hok.right hb 3 fr hok.rooted i hi)

set_option maxHeartbeats 16000000 in
set_option maxRecDepth 100000 in
theorem fileFresh_walk (a : Option Addr) (n c : Nat) (B : Nat → Blk) (key fr fs : Int) (w : World) (hnm : n ≤ 9223372036854775807) (h : StoreAt w a n B) :
    Calls Try.prog 3 #[.agg #[.slice a n c], .int .i64 key, .agg #[.int .i64 fr, .int .i64 fs]] w fun e w' => e = .returned (.bool true) ∧ Below w.heap.size w w' := by
  have hE := hid (fe_start w a n c fr fs)
  have hbs := hid (store_bytes h)
  replace h := hid h
  go_enter Try.func3, Try.ntmps3
  go_wp2_with fail
  generalize (w.alloc (.cells #[.slice a n c] 24)).alloc (.cells #[.int .i64 fr, .int .i64 fs] 26) = w0 at *
  refine (crowded_any a n c B w0 hnm (h.out.below hE.out.bel)).mono ?_
  rintro e w1 ⟨⟨t, rfl, ht⟩, b1⟩
  replace hE := hE.out.below b1
  clear b1
  cases t
  case true =>
    replace hE := hid hE
    go_wp2_with fail
    go_ret
    exact ⟨rfl, hE.out.bel⟩
  have hcr := hid (ht rfl)
  clear ht
  have m0 := hE.s.cell 0
  have m1 := hE.f.cell 0
  have m2 := hE.f.cell 1
  simp at m0 m1 m2
  replace hE := hid hE
  go_wp2_with fail
  refine (fileRead_any a n c B key fr fs 0 256 w1 (h.out.below hE.out.bel)).mono ?_
  rintro e w2 ⟨hRd, b2⟩
  replace hE := hid (hE.out.below b2)
  clear b2 m0 m1 m2
  rcases hRd with ⟨e', rfl, he, _⟩ | ⟨x1, n1, c1, rfl, hok, hc1, hR1⟩
  · have he' : (e' == 0) = false := by simp [he]
    go_wp2_with fail
    refine (filed_any w2).mono ?_
    rintro e w4 ⟨rfl, b4⟩
    replace hE := hid (hE.out.below b4)
    go_wp2_with fail
    refine (filed_any w4).mono ?_
    rintro e w5 ⟨rfl, b5⟩
    replace hE := hid (hE.out.below b5)
    go_wp2_with fail
    go_ret
    exact ⟨rfl, hE.out.bel⟩
  have hsb := hok.sb
  obtain ⟨sz, rfl⟩ : ∃ sz : Nat, fs = (sz : Int) := ⟨fs.toNat, by omega⟩
  have hO := fileL_length key (leafAt B 3 fr)
  have hsz : sz ≤ 256 := by omega
  rw [Int.toNat_natCast, show (0 : Int).toNat = 0 from rfl, show (256 : Int).toNat = 256 from rfl, readL_all _ _ hO hsz] at hR1
  replace hR1 := hid (hR1.weaken (R := fun _ => True) (fun _ _ _ => trivial))
  have hPl : ((fileL key (leafAt B 3 fr)).take sz).length = sz := by rw [List.length_take, hO]; omega
  obtain rfl : n1 = sz := by rw [← hR1.out.1, hPl]
  have hpad : padTo ((fileL key (leafAt B 3 fr)).take n1) = fileL key (leafAt B 3 fr) := padTo_take hO hsz (fun k h1 h2 => hok.behind k (by omega) h2)
  have hPb : Bytes ((fileL key (leafAt B 3 fr)).take n1) := fun x hx => fileL_bytes key (leafAt B 3 fr) x (List.mem_of_mem_take hx)
  obtain ⟨hok0, hO0⟩ := fileOk_zero (key := key) (size := 0) hok.right hok.kb (by omega)
  have hlf := fresh_leaf hok hbs.out
  obtain ⟨P, hPd⟩ : ∃ P, P = (fileL key (leafAt B 3 fr)).take n1 := ⟨_, rfl⟩
  rw [← hPd] at hR1 hPl hpad hPb
  replace hok := hid hok
  replace hok0 := hid hok0
  replace hO0 := hid hO0
  replace hlf := hid hlf
  replace hpad := hid hpad
  replace hPl := hid hPl
  replace hPb := hid hPb
  clear hPd hO
  go_wp2_with fail
  refine (filed_any w2).mono ?_
  rintro e w4 ⟨rfl, b4⟩
  replace hE := hE.out.below b4
  replace hR1 := hid (hR1.out.below b4)
  clear b4
  have m0 := hE.s.cell 0
  simp at m0
  replace hE := hid hE
  go_wp2_with fail
  refine (fileWrite_any a n c B key 0 0 0 x1 n1 c1 P 999000 w4 (h.out.below hE.out.bel) hR1.out (by omega) (by omega) hcr.out).mono ?_
  rintro e w5 ⟨⟨x, ln, lc, ra, rs, e', rfl, hcase⟩, b5⟩
  replace hE := hid (hE.out.below b5)
  clear b5 m0
  have bA := below_two w5 (.cells #[.slice x ln lc] 24) (.cells #[.int .i64 ra, .int .i64 rs] 26)
  replace hE := hE.out.below bA
  have hN : overL ((fileL key (leafAt B 3 0)).take (0 : Int).toNat) (0 : Int).toNat P = P := by
    rw [show (0 : Int).toNat = 0 from rfl, List.take_zero]
    exact overL_nil P
  rw [hN] at hcase
  rcases hcase with ⟨rfl, rfl, rfl, rfl, rfl, he, hno⟩ | ⟨rfl, _, _, g, C, rfl, hln, hlc, hrs, hg, hOwn, hT⟩
  · obtain ⟨rfl, _⟩ := hno hok0.out (by rw [hPl.out]; omega)
    replace hE := hid hE
    clear hno he bA
    go_wp2_with fail
    go_ret
    exact ⟨rfl, hE.out.bel⟩
  obtain rfl := hln.symm
  obtain rfl := hlc.symm
  rw [hPl.out] at hrs
  subst hrs
  obtain ⟨hFg, _, hnl⟩ := hT.file hok0.out (by rw [hPl.out]; omega) hPb.out
  have hck1 : Hid (Checked n C fr 3 0) := hid (hok.out.ext hT.turned.ext hT.turned.right).1.checked
  have hck2 : Hid (Checked n C ra 3 0) := hid hFg.checked
  have hdf : Hid (diffs C 3 fr ra 0 = []) := hid (diffs_none fun j hj => by
    rw [hT.turned.ext.leaf hok.out.right 3 fr hok.out.rooted j hj, hnl j hj, hO0.out, hpad.out, hlf.out j hj])
  have hbx := box_start w5 (some ⟨g, 0, none⟩) n n ra n1
  have hSC := hid (hOwn.store.below bA)
  have m0 := hbx.s.cell 0
  have m1 := hbx.f.cell 0
  have m2 := hE.f.cell 0
  simp at m2
  replace hbx := hid hbx
  replace hE := hid hE
  clear hT hOwn bA hg hFg hnl
  go_wp2_with fail
  generalize (w5.alloc (.cells #[.slice (some ⟨g, 0, none⟩) n n] 24)).alloc (.cells #[.int .i64 ra, .int .i64 (n1 : Int)] 26) = w6 at *
  clear m0 m1 m2
  refine (treeDiffer_any (some ⟨g, 0, none⟩) n n C fr ra 3 w6 hSC.out).mono ?_
  rintro e w7 ⟨⟨e', _, _, hno⟩ | ⟨l, v, vn, vc, rfl, _, hl3, _, _, _, hNv⟩, b7⟩
  · exact absurd ⟨hck1.out, hck2.out⟩ hno
  obtain rfl : l = 3 := by omega
  rw [hdf.out] at hNv
  obtain rfl : vn = 0 := hNv.1.symm
  replace hE := hE.out.below b7
  have m5 := (hbx.out.f.below b7).cell 1
  have m6 := hE.f.cell 1
  simp at m5 m6
  replace hE := hid hE
  clear hNv hbx b7 hl3
  go_wp2_with fail
  go_ret
  exact ⟨rfl, hE.out.bel⟩
end Go.Proofs.Ytaagnojdpedilad
