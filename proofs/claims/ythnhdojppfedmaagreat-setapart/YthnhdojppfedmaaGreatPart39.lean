/-
  SetClA, SnapH in one text. Nothing here is trusted.
-/
import Derived.Test.YthnhdojppfedmaaGreatPart35
import Derived.Test.YthnhdojppfedmaaGreatPart20
import Derived.Test.YthnhdojppfedmaaGreatPart04
import Derived.Deep.RegionHeld3
set_option linter.unusedVariables false
namespace Go.Proofs.YthnhdojppfedmaaGreat
open Go.RowKit

/-- the boxes of Clone -/
structure CB (W wr : World) (sa : Option Addr) (n sc : Nat) (v : SetV) : Prop where
  bel : Below W.heap.size W wr
  sz : W.heap.size + 4 ≤ wr.heap.size
  bS : CellsAt wr W.heap.size #[.slice sa n sc] 24
  bX : CellsAt wr (W.heap.size + 1) #[.string v.name, .slice v.fa v.fn v.fc, .slice v.sa v.sn v.sc] 28
  r8 : CellsAt wr (W.heap.size + 1 + 1) #[.slice none 0 0] 24
  r9 : CellsAt wr (W.heap.size + 1 + 1 + 1) #[.string (ByteArray.mk #[]), .slice none 0 0, .slice none 0 0] 28
theorem CB.below {W wr w' : World} {sa : Option Addr} {n sc : Nat} {v : SetV} (h : CB W wr sa n sc v) (b : Below wr.heap.size wr w') : CB W w' sa n sc v := ⟨Below.tr h.bel b, Nat.le_trans h.sz b.size, h.bS.below b, h.bX.below b, h.r8.below b, h.r9.below b⟩
theorem cb_enter (w : World) (sa : Option Addr) (n sc : Nat) (v : SetV) : CB w ((((w.alloc (.cells #[.slice sa n sc] 24)).alloc (.cells #[.string v.name, .slice v.fa v.fn v.fc, .slice v.sa v.sn v.sc] 28)).alloc (.cells #[.slice none 0 0] 24)).alloc (.cells #[.string (ByteArray.mk #[]), .slice none 0 0, .slice none 0 0] 28)) sa n sc v := by
  have h1 := cellsAt_alloc w #[.slice sa n sc] 24
  have h2 := cellsAt_alloc (w.alloc (.cells #[.slice sa n sc] 24)) #[.string v.name, .slice v.fa v.fn v.fc, .slice v.sa v.sn v.sc] 28
  have h3 := cellsAt_alloc ((w.alloc (.cells #[.slice sa n sc] 24)).alloc (.cells #[.string v.name, .slice v.fa v.fn v.fc, .slice v.sa v.sn v.sc] 28)) #[.slice none 0 0] 24
  have h4 := cellsAt_alloc (((w.alloc (.cells #[.slice sa n sc] 24)).alloc (.cells #[.string v.name, .slice v.fa v.fn v.fc, .slice v.sa v.sn v.sc] 28)).alloc (.cells #[.slice none 0 0] 24)) #[.string (ByteArray.mk #[]), .slice none 0 0, .slice none 0 0] 28
  simp only [sz_alloc] at h2 h3 h4
  exact ⟨bAl (bAl (bAl (bAl (Below.refl _ w) _) _) _) _, by simp, ((h1.below (below_alloc _ _)).below (below_alloc _ _)).below (below_alloc _ _), (h2.below (below_alloc _ _)).below (below_alloc _ _), h3.below (below_alloc _ _), h4⟩
theorem CB.put {W wr : World} {sa : Option Addr} {n sc : Nat} {v : SetV} (h : CB W wr sa n sc v) (s : Value) (u : SetV) : Below W.heap.size W (putX (wr.setCell ⟨W.heap.size + 1 + 1, 0, none⟩ s) (W.heap.size + 1 + 1 + 1) u) :=
  (h.bel.trans ((kept_putS wr (W.heap.size + 1 + 1) s).below (by omega))).trans ((kept_putX _ _ u).below (by omega))
theorem cloneE_lo (name : ByteArray) (fa : Option Addr) (fn fc : Nat) (l : List Ent) (w : World) (h6 : fn ≤ 6) (hnm : name.size ≤ maxLen) (hE : EntsAt (fun _ => True) w fa fn l) :
    Calls Tryz.prog 44 #[.slice fa fn fc] w fun e w' => (∃ (ya : Option Addr) (yc lo : Nat), e = .returned (.slice ya fn yc) ∧ w.heap.size ≤ lo ∧ SetNew lo (fun b => lo ≤ b) w' ⟨name, ya, fn, yc, none, 0, 0⟩ ⟨name, l, []⟩ []) ∧ Below w.heap.size w w' := by
  refine (cloneE_any fa fn fc (entCells l) w (by omega) (by rw [entCells_len, hE.1]) (entCells_one _) (hE.srcAt.src (Nat.le_refl _))).mono ?_
  rintro e w' ⟨b, ya, yc, rfl, _, hr⟩
  exact ⟨⟨ya, yc, w.heap.size, rfl, Nat.le_refl _, ⟨rfl, hnm, hr, ⟨rfl, .inl ⟨rfl, rfl⟩⟩, rfl, hE.2.1, fun m hm => by simp at hm, fun b _ h => by cases h⟩⟩, b⟩
/-- what Clone leaves -/
def RetCl (w : World) (n : Nat) (B : Nat → Blk) (key : Int) (x : SetE) (cc : Int) (e : Ending) (w' : World) : Prop :=
  Below w.heap.size w w' ∧ ((∃ e' : Int, e = .returned (.tuple #[.agg #[.slice none 0 0], .agg #[.string (ByteArray.mk #[]), .slice none 0 0, .slice none 0 0], .int .i64 e']) ∧ e' ≠ 0) ∨
    (∃ (g : Nat) (C : Nat → Blk) (u : SetV) (y : SetE) (K : List Int), e = .returned (.tuple #[.agg #[.slice (some ⟨g, 0, none⟩) n n], .agg #[.string u.name, .slice u.fa u.fn u.fc, .slice u.sa u.sn u.sc], .int .i64 0]) ∧ SetOk n B key x ∧ HeldR n B (rootsX x) ∧ Grow n B C K ∧ (∀ r : Int, r ≠ 0 → (rootsX y).count r = K.count r) ∧ SetOk n C key y ∧ HeldR n C (rootsX y) ∧ y.snaps = [] ∧ (∀ k, k < n → (C k).refs ≤ cc + 6) ∧ (w.heap.size ≤ g ∧ Own w' g n C) ∧ SetAt (fun b => w.heap.size ≤ b) w' u y))
theorem RetCl.drew {w w' : World} {n : Nat} {B : Nat → Blk} {key : Int} {x : SetE} {cc : Int} {e : Ending} (h : RetCl w n B key x cc e w') : RetCl w n B key x cc e w'.drew := by
  obtain ⟨b, h⟩ := h
  refine ⟨b.trans (below_drew _ _), ?_⟩
  rcases h with h | ⟨g, C, u, y, K, h1, h2, h3, h4, h5, h6, h7, h8, h9, h10, h11⟩
  · exact .inl h
  · exact .inr ⟨g, C, u, y, K, h1, h2, h3, h4, h5, h6, h7, h8, h9, ⟨h10.1, h10.2.below (below_drew _ _)⟩, h11.below (below_drew _ _)⟩
/-- nothing is let go: what is held besides alone -/
theorem grow_of_fell {n : Nat} {B D : Nat → Blk} {K : List Int} (hB : Right n B) (hK : ∀ r ∈ K, r = 0 ∨ There n B r) (hc : ∀ i, i < n → (B i).refs + (K.length : Int) ≤ 1000000) (hD : Right n D) (hF : Fell n (moreB B K) D []) : Grow n B D K ∧ ∀ k, k < n → (D k).refs = (B k).refs + (K.count ((k : Int) + 1) : Int) := by
  have hE := right_moreB hB hK hc
  have hg := grow_moreB hB hK hc
  have he : ∀ k, k < n → D k = moreB B K k := same_of hD hE (fun k hk => by
    by_cases e1 : (D k).refs = 0
    · exact .inl e1
    have e0 : ((k : Int) + 1 - 1).toNat = k := by omega
    have hcD := fell_content hF (x := (k : Int) + 1) ⟨by omega, by omega, by rw [e0]; exact e1⟩
    rw [e0] at hcD
    exact .inr (.inr hcD)) (fun k hk => by rw [hF.outs k hk]; simp)
  refine ⟨⟨hD, ⟨fun k hk h0 => ?_⟩, fun k hk => by rw [hF.outs k hk, outs_moreB]; simp⟩, fun k hk => by rw [he k hk]; rfl⟩
  rw [he k hk]
  exact hg.ext.keep k hk h0

/-- behind the stores into the results -/
theorem fin_cl {w w2 WC : World} {sa : Option Addr} {n sc : Nat} {B D : Nat → Blk} {key : Int} {v u : SetV} {x : SetE} {name : ByteArray} {l2 : List Ent} {g : Nat} {cc : Int} {L : Nat → Prop} {ms : List SnapM} (hcb : CB w WC sa n sc v) (hsz2 : w.heap.size + 4 ≤ w2.heap.size) (g8 : w2.heap.size ≤ g) (hx : SetOk n B key x) (hh : HeldR n B (rootsX x)) (hg : Grow n B D (rootsX ⟨name, l2, []⟩)) (hok : SetOk n D key ⟨name, l2, []⟩) (hheld : HeldR n D (rootsX ⟨name, l2, []⟩)) (hfew : ∀ k, k < n → (D k).refs ≤ cc + 6) (hOD : Own WC g n D) (hSN : SetNew w2.heap.size L WC u ⟨name, l2, []⟩ ms) (hL : ∀ b, L b → w2.heap.size ≤ b) :
    RetCl w n B key x cc (.returned (.tuple #[.agg #[.slice (some ⟨g, 0, none⟩) n n], .agg #[.string name, .slice u.fa u.fn u.fc, .slice u.sa u.sn u.sc], .int .i64 0])) (putX (WC.setCell ⟨w.heap.size + 1 + 1, 0, none⟩ (.slice (some ⟨g, 0, none⟩) n n)) (w.heap.size + 1 + 1 + 1) ⟨name, u.fa, u.fn, u.fc, u.sa, u.sn, u.sc⟩) := by
  have k1 := kept_putS WC (w.heap.size + 1 + 1) (.slice (some ⟨g, 0, none⟩) n n)
  have k2 := kept_putX (WC.setCell ⟨w.heap.size + 1 + 1, 0, none⟩ (.slice (some ⟨g, 0, none⟩) n n)) (w.heap.size + 1 + 1 + 1) ⟨name, u.fa, u.fn, u.fc, u.sa, u.sn, u.sc⟩
  have o1 := Only.of_kept (M := fun k => k = w.heap.size + 1 + 1 ∨ k = w.heap.size + 1 + 1 + 1) k1 (.inl rfl)
  have o2 := Only.of_kept (M := fun k => k = w.heap.size + 1 + 1 ∨ k = w.heap.size + 1 + 1 + 1) k2 (.inr rfl)
  have on := o1.trans o2
  have hS2 := (hSN.only on (fun b hb m => by have := (hSN.mine_ge hb).1; omega) (fun b hb m => by have := hL b hb; omega)).at
  refine ⟨hcb.put _ _, .inr ⟨g, D, ⟨name, u.fa, u.fn, u.fc, u.sa, u.sn, u.sc⟩, ⟨name, l2, []⟩, _, rfl, hx, hh, hg, fun _ _ => rfl, hok, hheld, rfl, hfew, ⟨by omega, own_only hOD on (fun b _ m => by omega)⟩, ?_⟩⟩
  exact ⟨rfl, hS2.small, hS2.files.weaken (fun b _ h => by rcases h with h | h; (· omega); have := hL b h; omega), hS2.snaps.weaken (fun b _ h => by rcases h with h | h; (· omega); have := hL b h; omega), hS2.caps⟩

end Go.Proofs.YthnhdojppfedmaaGreat

namespace Go.Proofs.YthnhdojppfedmaaGreat
open Go.RowKit

/-- what Destroy answers -/
def RetDw (base : Nat) (e : Ending) (w : World) (n : Nat) (B : Nat → Blk) (R : List Int) : Prop := ∃ (g : Nat) (D : Nat → Blk), e = .returned (.tuple #[.agg #[.slice (some ⟨g, 0, none⟩) n n], .int .i64 0]) ∧ Right n D ∧ Fell n B D R ∧ base ≤ g ∧ Own w g n D

set_option maxHeartbeats 1000000 in
set_option maxRecDepth 100000 in
theorem equalT_nil (w : World) : Calls Tryz.prog 47 #[.slice none 0 0, .slice none 0 0] w fun e w' => e = .returned (.bool true) ∧ w' = w := by
  go_enter Tryz.func47, Tryz.ntmps47
  go_wp2_with fail
  go_loopw [13] (fun v wr => v = .int .i64 0 ∧ wr = w) (fun _ _ => 0)
  case atStart => exact ⟨rfl, rfl⟩
  case round =>
    obtain ⟨rfl, rfl⟩ := hrel
    go_wp2_with fail
    go_ret
    exact ⟨rfl, rfl⟩

set_option maxHeartbeats 2000000 in
set_option maxRecDepth 100000 in
theorem sameAnswer_true (N : Int) (ya za : Option Addr) (yn yc zn zc : Nat) (Q R : Nat → Prop) (l : List Int) (w : World) (hy : NumsAt Q .u8 w ya yn l) (hz : NumsAt R .u8 w za zn l) :
    Calls Tryz.prog 19 #[.agg #[.int .i64 0, .int .i64 N, .slice none 0 0, .slice ya yn yc], .agg #[.int .i64 0, .int .i64 N, .slice none 0 0, .slice za zn zc]] w fun e w' => e = .returned (.bool true) ∧ Below w.heap.size w w' := by
  have b0 := below_two w (.cells #[.int .i64 0, .int .i64 N, .slice none 0 0, .slice ya yn yc] 57) (.cells #[.int .i64 0, .int .i64 N, .slice none 0 0, .slice za zn zc] 57)
  replace hy := hid (hy.below b0)
  replace hz := hid (hz.below b0)
  go_enter Tryz.func19, Tryz.ntmps19
  go_wp2_with fail
  refine (equalT_nil _).mono ?_
  rintro e w1 ⟨rfl, rfl⟩
  go_wp2_with fail
  refine (bytesEqual_same ya za yn yc zn zc Q R l _ hy.out hz.out).mono ?_
  rintro e w2 ⟨rfl, rfl⟩
  go_wp2_with fail
  go_ret
  exact ⟨rfl, b0⟩

set_option maxHeartbeats 4000000 in
set_option maxRecDepth 100000 in
theorem destroy_own (Q : Nat → Prop) (sa : Option Addr) (n sc : Nat) (B : Nat → Blk) (key : Int) (v : SetV) (x : SetE) (w : World) (hs : StoreAt w sa n B) (hX : SetAt Q w v x) (hx : SetOk n B key x) (hh : HeldR n B (rootsX x)) :
    Calls Tryz.prog 14 #[.agg #[.slice sa n sc], .int .i64 key, v.val] w fun e w' => RetDw w.heap.size e w' n B (rootsX x) ∧ Below w.heap.size w w' := by
  unfold SetV.val
  have b0 : Below w.heap.size w (((w.alloc (.cells #[.slice sa n sc] 24)).alloc (.cells #[.string v.name, .slice v.fa v.fn v.fc, .slice v.sa v.sn v.sc] 28)).alloc (.cells #[.slice none 0 0] 24)) := bAl (bAl (bAl (Below.refl _ w) _) _) _
  have k0 : CellsAt (((w.alloc (.cells #[.slice sa n sc] 24)).alloc (.cells #[.string v.name, .slice v.fa v.fn v.fc, .slice v.sa v.sn v.sc] 28)).alloc (.cells #[.slice none 0 0] 24)) w.heap.size #[.slice sa n sc] 24 := ((cellsAt_alloc w _ _).below (below_alloc _ _)).below (below_alloc _ _)
  have k1 : CellsAt (((w.alloc (.cells #[.slice sa n sc] 24)).alloc (.cells #[.string v.name, .slice v.fa v.fn v.fc, .slice v.sa v.sn v.sc] 28)).alloc (.cells #[.slice none 0 0] 24)) (w.heap.size + 1) #[.string v.name, .slice v.fa v.fn v.fc, .slice v.sa v.sn v.sc] 28 := (cellsAt_alloc2 w (.cells #[.slice sa n sc] 24) _ _).below (below_alloc _ _)
  have k2 := cellsAt_alloc ((w.alloc (.cells #[.slice sa n sc] 24)).alloc (.cells #[.string v.name, .slice v.fa v.fn v.fc, .slice v.sa v.sn v.sc] 28)) #[.slice none 0 0] 24
  simp only [sz_alloc] at k2
  have hsz : w.heap.size + 3 ≤ (((w.alloc (.cells #[.slice sa n sc] 24)).alloc (.cells #[.string v.name, .slice v.fa v.fn v.fc, .slice v.sa v.sn v.sc] 28)).alloc (.cells #[.slice none 0 0] 24)).heap.size := by simp
  have hsh := hid hx.shape
  have hn4 := hx.right.small
  have hl4 : Hid (∀ i, i < n → (B i).kids.length ≤ 4 ∧ (B i).bytes.length ≤ 4) := hid (fun i hi => ⟨(hx.right.one i hi).few, (hx.right.one i hi).few2⟩)
  have hbd : Hid (∀ i, i < n → (B i).refs + (([] : List Int).length : Int) ≤ 1000000) := hid (fun i hi => by have := (hx.right.one i hi).bounds; simp; omega)
  have hln : Hid ((rootsX x).length ≤ 1000) := hid (by have := length_rootsX hx.shape; omega)
  replace hs := hid hs
  replace hX := hid hX
  replace hx := hid hx
  replace hh := hid hh
  replace k0 := hid k0
  replace k1 := hid k1
  replace k2 := hid k2
  replace b0 := hid b0
  go_enter Tryz.func14, Tryz.ntmps14
  go_wp2_with fail
  generalize ((w.alloc (.cells #[.slice sa n sc] 24)).alloc (.cells #[.string v.name, .slice v.fa v.fn v.fc, .slice v.sa v.sn v.sc] 28)).alloc (.cells #[.slice none 0 0] 24) = w0 at *
  refine (checkHeld_any Q sa n sc B key v x w0 (hs.out.below b0.out) (hX.out.below b0.out)).mono ?_
  rintro e w1 ⟨⟨e', rfl, he⟩, b1⟩
  obtain rfl : e' = 0 := he.2 ⟨hx.out, hh.out⟩
  clear he
  replace k0 := hid (k0.out.below b1)
  replace k1 := hid (k1.out.below b1)
  replace k2 := hid (k2.out.below b1)
  replace b0 := hid (Below.tr b0.out b1)
  have hs1 := b1.size
  clear b1
  go_wp2_with fail
  refine (copy_any ⟨w.heap.size, 0, none⟩ sa n sc B w1 ⟨k0.out.lt, by have := k0.out.cell 0; simpa using this, hs.out.below b0.out⟩ hn4 hl4.out).mono ?_
  rintro e w2 ⟨b2, g, rfl, hg, hO⟩
  have bA := below_alloc w2 (.cells #[.slice (some ⟨g, 0, none⟩) n n] 24)
  have k9 := cellsAt_alloc w2 #[.slice (some ⟨g, 0, none⟩) n n] 24
  have hgl := hO.lt
  replace hO := hid (hO.below bA)
  replace k1 := hid ((k1.out.below b2).below bA)
  replace k2 := hid ((k2.out.below b2).below bA)
  have hs2 := b2.size
  replace b0 := hid (Below.tr (Below.tr b0.out b2) bA)
  have x0 := k1.out.cell 0
  have x1 := k1.out.cell 1
  have x2 := k1.out.cell 2
  simp only [List.getElem?_toArray, List.getElem?_cons_zero, List.getElem?_cons_succ] at x0 x1 x2
  replace k9 := hid k9
  have hsA : w2.heap.size < (w2.alloc (.cells #[.slice (some ⟨g, 0, none⟩) n n] 24)).heap.size := by simp
  clear b2 bA
  go_upto_region 5 with fail
  generalize w2.alloc (.cells #[.slice (some ⟨g, 0, none⟩) n n] 24) = w3 at *
  go_wp2_with fail
  refine (roots_lo Q v x v.name w3 (hX.out.below b0.out) hsh.out rfl).mono ?_
  rintro e w4 ⟨⟨ra, rc, lo, rfl, hlo, hr, hw, _⟩, b4⟩
  have k9' := k9.out.below b4
  have hP : Hid (OwnPtr w4 ⟨w2.heap.size, 0, none⟩ g n B) := hid ⟨k9'.lt, by show w2.heap.size ≠ g; omega, by have := k9'.cell 0; simpa using this, hO.out.below b4⟩
  have hN := hid ((nums_row hr hw).weaken (R := fun b => b ≠ g) (fun b _ q => by have := q.1; omega))
  replace k2 := hid (k2.out.below b4)
  replace b0 := hid (Below.tr b0.out b4)
  clear x0 x1 x2 hr hw k9 k9' hO
  go_wp2_with fail
  refine (shift_any ⟨w2.heap.size, 0, none⟩ g n B none 0 0 [] ra (rootsX x).length rc (rootsX x) w4 hP.out ⟨rfl, fun x hx => by simp at hx, fun h => absurd h (by omega)⟩ hN.out hln.out (by omega) hx.out.right (fun r hr => by simp at hr) hbd.out (fun k hk => by have := hh.out k hk; simp; exact this) hx.out.rootBd).mono ?_
  rintro e w5 ⟨rfl, ho, D, hOP, hRD, hFD⟩
  rw [moreB_nil] at hFD
  have l2 := k2.out.lt
  have hk2 : CellsAt w5 (w.heap.size + 1 + 1) #[.slice none 0 0] 24 := (Only.of_out (M := fun b => b = g) ho rfl).cells k2.out (by omega)
  have c9 := hOP.cell
  have f0 := hk2.cell 0
  have f1 := hk2.frozen 0
  simp at f0
  have hSt := hid ((own_only hOP.own (Only.of_kept (M := fun b => b = w.heap.size + 1 + 1) (kept_putS w5 (w.heap.size + 1 + 1) (.slice (some ⟨g, 0, none⟩) n n)) rfl) (fun b _ m => by omega)))
  have bF := hid ((b0.out.trans (ho.below (B := w.heap.size) (by omega) b0.out.size)).trans ((kept_putS w5 (w.heap.size + 1 + 1) (.slice (some ⟨g, 0, none⟩) n n)).below (B := w.heap.size) (by omega)))
  replace hFD := hid hFD
  replace hRD := hid hRD
  clear hOP ho hk2
  go_wp2_with fail
  refine bodyPost_ret (v := .tuple #[.agg #[.slice (some ⟨g, 0, none⟩) n n], .int .i64 0]) (by rw [results_cell_tmp rfl]; go_simp) rfl ?_
  exact ⟨⟨g, D, rfl, hRD.out, hFD.out, by omega, hSt.out⟩, bF.out⟩
end Go.Proofs.YthnhdojppfedmaaGreat
