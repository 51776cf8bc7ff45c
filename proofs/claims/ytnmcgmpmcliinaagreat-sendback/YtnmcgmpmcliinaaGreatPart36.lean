/-
  SnapF in one text. Nothing here is trusted.
-/
import Derived.Test.YtnmcgmpmcliinaaGreatPart31
import Derived.Test.YtnmcgmpmcliinaaGreatPart18
set_option linter.unusedVariables false
namespace Go.Proofs.YtnmcgmpmcliinaaGreat
open Go.RowKit

theorem wrote_snaps {n : Nat} {B C : Nat → Blk} {key : Int} {x y : SetE} {nm : ByteArray} {N : Int → Int → List Int} {cc made : Int} (h : Wrote n B C key x nm N cc made y) : y.snaps = x.snaps := by
  obtain ⟨root, size, _, _, p, ht⟩ := h
  rcases ht with ⟨_, _, _, _, rfl⟩ | ⟨_, _, _, _, _, _, rfl⟩ <;> rfl
/-- a snap stays, but where it is forgotten -/
theorem Did.snap {n : Nat} {B D : Nat → Blk} {key : Int} {x y : SetE} {a : AskE} {cc : Int} (hx : Shape x) (h : Did n B key x a cc D y) {s : SnapE} (hs : s ∈ x.snaps) (hno : ¬ (a.kind = 8 ∧ a.to = s.name)) : s ∈ y.snaps := by
  obtain ⟨C, made, hY, _, _⟩ := h
  rcases hY with ⟨_, _, _, h⟩ | ⟨_, _, _, h⟩ | ⟨h, _, _⟩
  · rw [wrote_snaps h]; exact hs
  · rw [wrote_snaps h]; exact hs
  · rcases h with ⟨_, p, hp, _, rfl⟩ | ⟨_, _, p, q, hp, _, _, _, rfl⟩ | ⟨_, _, q, _, _, rfl⟩ | ⟨h8, _, q, hq, hqn, rfl⟩ | ⟨_, _, q, hq, _, rfl⟩
    · exact hs
    · exact hs
    · exact mem_insert.2 (.inr hs)
    · refine (mem_erase_ne (f := SnapE.nm) hx.orderS hq).2 ⟨hs, fun e => hno ⟨h8, ?_⟩⟩
      exact (bytes_eq (e.trans hqn)).symm
    · exact hs
/-- who goes back has what was -/
theorem back_files {x y : SetE} {s : SnapE} (hx : Shape x) (hs : s ∈ x.snaps) {a : AskE} (ha : a.to = s.name) (h : WentBack x a y) : y.files = s.files ∧ y.snaps = x.snaps := by
  obtain ⟨q, hq, hqn, rfl⟩ := h
  have e : x.snaps[q] = s := ordered_one SnapE.nm hx.orderS (List.getElem_mem hq) hs (by rw [hqn, ha]; rfl)
  exact ⟨by show (x.snaps[q]).files = s.files; rw [e], rfl⟩

/-- what Destroy answers -/
def RetDy (e : Ending) (w : World) (n : Nat) (B : Nat → Blk) (R : List Int) : Prop := ∃ (g : Nat) (D : Nat → Blk), e = .returned (.tuple #[.agg #[.slice (some ⟨g, 0, none⟩) n n], .int .i64 0]) ∧ Right n D ∧ Fell n B D R ∧ StoreAt w (some ⟨g, 0, none⟩) n D

set_option maxHeartbeats 4000000 in
set_option maxRecDepth 100000 in
theorem destroy_ok (Q : Nat → Prop) (sa : Option Addr) (n sc : Nat) (B : Nat → Blk) (key : Int) (v : SetV) (x : SetE) (w : World) (hs : StoreAt w sa n B) (hX : SetAt Q w v x) (hx : SetOk n B key x) (hh : HeldR n B (rootsX x)) :
    Calls Tryz.prog 100 #[.agg #[.slice sa n sc], .int .i64 key, v.val] w fun e w' => RetDy e w' n B (rootsX x) ∧ Below w.heap.size w w' := by
  unfold SetV.val
  have b0 : Below w.heap.size w (((w.alloc (.cells #[.slice sa n sc] 24)).alloc (.cells #[.string v.name, .slice v.fa v.fn v.fc, .slice v.sa v.sn v.sc] 47)).alloc (.cells #[.slice none 0 0] 24)) := bAl (bAl (bAl (Below.refl _ w) _) _) _
  have k0 : CellsAt (((w.alloc (.cells #[.slice sa n sc] 24)).alloc (.cells #[.string v.name, .slice v.fa v.fn v.fc, .slice v.sa v.sn v.sc] 47)).alloc (.cells #[.slice none 0 0] 24)) w.heap.size #[.slice sa n sc] 24 := ((cellsAt_alloc w _ _).below (below_alloc _ _)).below (below_alloc _ _)
  have k1 : CellsAt (((w.alloc (.cells #[.slice sa n sc] 24)).alloc (.cells #[.string v.name, .slice v.fa v.fn v.fc, .slice v.sa v.sn v.sc] 47)).alloc (.cells #[.slice none 0 0] 24)) (w.heap.size + 1) #[.string v.name, .slice v.fa v.fn v.fc, .slice v.sa v.sn v.sc] 47 := (cellsAt_alloc2 w (.cells #[.slice sa n sc] 24) _ _).below (below_alloc _ _)
  have k2 := cellsAt_alloc ((w.alloc (.cells #[.slice sa n sc] 24)).alloc (.cells #[.string v.name, .slice v.fa v.fn v.fc, .slice v.sa v.sn v.sc] 47)) #[.slice none 0 0] 24
  simp only [sz_alloc] at k2
  have hsz : w.heap.size + 3 ≤ (((w.alloc (.cells #[.slice sa n sc] 24)).alloc (.cells #[.string v.name, .slice v.fa v.fn v.fc, .slice v.sa v.sn v.sc] 47)).alloc (.cells #[.slice none 0 0] 24)).heap.size := by simp
  have hsh := hid hx.shape
  have hn4 := hx.right.small
  have hl4 : Hid (∀ i, i < n → (B i).kids.length ≤ 4 ∧ (B i).bytes.length ≤ 4) := hid (fun i hi => ⟨(hx.right.one i hi).few, (hx.right.one i hi).few2⟩)
  have hbd : Hid (∀ i, i < n → (B i).refs + (([] : List Int).length : Int) ≤ 1000000) := hid (fun i hi => by have := (hx.right.one i hi).bounds; simp; omega)
  have hln : Hid ((rootsX x).length ≤ 1000) := hid (by have := length_rootsX hx.shape; omega)
  replace hs := hid hs
  replace hX := hid hX
  replace hx := hid hx
  replace hh := hid hh
  replace k0 := hid k0
  replace k1 := hid k1
  replace k2 := hid k2
  replace b0 := hid b0
  go_enter Tryz.func100, Tryz.ntmps100
  go_wp2_with fail
  generalize ((w.alloc (.cells #[.slice sa n sc] 24)).alloc (.cells #[.string v.name, .slice v.fa v.fn v.fc, .slice v.sa v.sn v.sc] 47)).alloc (.cells #[.slice none 0 0] 24) = w0 at *
  refine (checkHeld_any Q sa n sc B key v x w0 (hs.out.below b0.out) (hX.out.below b0.out)).mono ?_
  rintro e w1 ⟨⟨e', rfl, he⟩, b1⟩
  obtain rfl : e' = 0 := he.2 ⟨hx.out, hh.out⟩
  clear he
  replace k0 := hid (k0.out.below b1)
  replace k1 := hid (k1.out.below b1)
  replace k2 := hid (k2.out.below b1)
  replace b0 := hid (Below.tr b0.out b1)
  have hs1 := b1.size
  clear b1
  go_wp2_with fail
  refine (copy_any ⟨w.heap.size, 0, none⟩ sa n sc B w1 ⟨k0.out.lt, by have := k0.out.cell 0; simpa using this, hs.out.below b0.out⟩ hn4 hl4.out).mono ?_
  rintro e w2 ⟨b2, g, rfl, hg, hO⟩
  have bA := below_alloc w2 (.cells #[.slice (some ⟨g, 0, none⟩) n n] 24)
  have k9 := cellsAt_alloc w2 #[.slice (some ⟨g, 0, none⟩) n n] 24
  have hgl := hO.lt
  replace hO := hid (hO.below bA)
  replace k1 := hid ((k1.out.below b2).below bA)
  replace k2 := hid ((k2.out.below b2).below bA)
  have hs2 := b2.size
  replace b0 := hid (Below.tr (Below.tr b0.out b2) bA)
  have x0 := k1.out.cell 0
  have x1 := k1.out.cell 1
  have x2 := k1.out.cell 2
  simp only [List.getElem?_toArray, List.getElem?_cons_zero, List.getElem?_cons_succ] at x0 x1 x2
  replace k9 := hid k9
  have hsA : w2.heap.size < (w2.alloc (.cells #[.slice (some ⟨g, 0, none⟩) n n] 24)).heap.size := by simp
  clear b2 bA
  go_upto_region 5 with fail
  generalize w2.alloc (.cells #[.slice (some ⟨g, 0, none⟩) n n] 24) = w3 at *
  go_wp2_with fail
  refine (roots_lo Q v x v.name w3 (hX.out.below b0.out) hsh.out rfl).mono ?_
  rintro e w4 ⟨⟨ra, rc, lo, rfl, hlo, hr, hw, _⟩, b4⟩
  have k9' := k9.out.below b4
  have hP : Hid (OwnPtr w4 ⟨w2.heap.size, 0, none⟩ g n B) := hid ⟨k9'.lt, by show w2.heap.size ≠ g; omega, by have := k9'.cell 0; simpa using this, hO.out.below b4⟩
  have hN := hid ((nums_row hr hw).weaken (R := fun b => b ≠ g) (fun b _ q => by have := q.1; omega))
  replace k2 := hid (k2.out.below b4)
  replace b0 := hid (Below.tr b0.out b4)
  clear x0 x1 x2 hr hw k9 k9' hO
  go_wp2_with fail
  refine (shift_any ⟨w2.heap.size, 0, none⟩ g n B none 0 0 [] ra (rootsX x).length rc (rootsX x) w4 hP.out ⟨rfl, fun x hx => by simp at hx, fun h => absurd h (by omega)⟩ hN.out hln.out (by omega) hx.out.right (fun r hr => by simp at hr) hbd.out (fun k hk => by have := hh.out k hk; simp; exact this) hx.out.rootBd).mono ?_
  rintro e w5 ⟨rfl, ho, D, hOP, hRD, hFD⟩
  rw [moreB_nil] at hFD
  have l2 := k2.out.lt
  have hk2 : CellsAt w5 (w.heap.size + 1 + 1) #[.slice none 0 0] 24 := (Only.of_out (M := fun b => b = g) ho rfl).cells k2.out (by omega)
  have c9 := hOP.cell
  have f0 := hk2.cell 0
  have f1 := hk2.frozen 0
  simp at f0
  have hSt := hid ((own_only hOP.own (Only.of_kept (M := fun b => b = w.heap.size + 1 + 1) (kept_putS w5 (w.heap.size + 1 + 1) (.slice (some ⟨g, 0, none⟩) n n)) rfl) (fun b _ m => by omega)).store)
  have bF := hid ((b0.out.trans (ho.below (B := w.heap.size) (by omega) b0.out.size)).trans ((kept_putS w5 (w.heap.size + 1 + 1) (.slice (some ⟨g, 0, none⟩) n n)).below (B := w.heap.size) (by omega)))
  replace hFD := hid hFD
  replace hRD := hid hRD
  clear hOP ho hk2
  go_wp2_with fail
  refine bodyPost_ret (v := .tuple #[.agg #[.slice (some ⟨g, 0, none⟩) n n], .int .i64 0]) (by rw [results_cell_tmp rfl]; go_simp) rfl ?_
  exact ⟨⟨g, D, rfl, hRD.out, hFD.out, hSt.out⟩, bF.out⟩
end Go.Proofs.YtnmcgmpmcliinaaGreat
