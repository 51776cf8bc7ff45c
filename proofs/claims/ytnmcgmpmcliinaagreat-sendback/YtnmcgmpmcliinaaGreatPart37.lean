/-
  SetClA, SetCl, SndT in one text. Nothing here is trusted.
-/
import Derived.Test.YtnmcgmpmcliinaaGreatPart36
import Derived.Test.YtnmcgmpmcliinaaGreatPart24
import Derived.Test.YtnmcgmpmcliinaaGreatPart32
import Derived.Test.YtnmcgmpmcliinaaGreatPart35
set_option linter.unusedVariables false
namespace Go.Proofs.YtnmcgmpmcliinaaGreat
open Go.RowKit

/-- the boxes of Clone -/
structure CB (W wr : World) (sa : Option Addr) (n sc : Nat) (v : SetV) : Prop where
  bel : Below W.heap.size W wr
  sz : W.heap.size + 4 ≤ wr.heap.size
  bS : CellsAt wr W.heap.size #[.slice sa n sc] 24
  bX : CellsAt wr (W.heap.size + 1) #[.string v.name, .slice v.fa v.fn v.fc, .slice v.sa v.sn v.sc] 47
  r8 : CellsAt wr (W.heap.size + 1 + 1) #[.slice none 0 0] 24
  r9 : CellsAt wr (W.heap.size + 1 + 1 + 1) #[.string (ByteArray.mk #[]), .slice none 0 0, .slice none 0 0] 47
theorem CB.below {W wr w' : World} {sa : Option Addr} {n sc : Nat} {v : SetV} (h : CB W wr sa n sc v) (b : Below wr.heap.size wr w') : CB W w' sa n sc v := ⟨Below.tr h.bel b, Nat.le_trans h.sz b.size, h.bS.below b, h.bX.below b, h.r8.below b, h.r9.below b⟩
theorem cb_enter (w : World) (sa : Option Addr) (n sc : Nat) (v : SetV) : CB w ((((w.alloc (.cells #[.slice sa n sc] 24)).alloc (.cells #[.string v.name, .slice v.fa v.fn v.fc, .slice v.sa v.sn v.sc] 47)).alloc (.cells #[.slice none 0 0] 24)).alloc (.cells #[.string (ByteArray.mk #[]), .slice none 0 0, .slice none 0 0] 47)) sa n sc v := by
  have h1 := cellsAt_alloc w #[.slice sa n sc] 24
  have h2 := cellsAt_alloc (w.alloc (.cells #[.slice sa n sc] 24)) #[.string v.name, .slice v.fa v.fn v.fc, .slice v.sa v.sn v.sc] 47
  have h3 := cellsAt_alloc ((w.alloc (.cells #[.slice sa n sc] 24)).alloc (.cells #[.string v.name, .slice v.fa v.fn v.fc, .slice v.sa v.sn v.sc] 47)) #[.slice none 0 0] 24
  have h4 := cellsAt_alloc (((w.alloc (.cells #[.slice sa n sc] 24)).alloc (.cells #[.string v.name, .slice v.fa v.fn v.fc, .slice v.sa v.sn v.sc] 47)).alloc (.cells #[.slice none 0 0] 24)) #[.string (ByteArray.mk #[]), .slice none 0 0, .slice none 0 0] 47
  simp only [sz_alloc] at h2 h3 h4
  exact ⟨bAl (bAl (bAl (bAl (Below.refl _ w) _) _) _) _, by simp, ((h1.below (below_alloc _ _)).below (below_alloc _ _)).below (below_alloc _ _), (h2.below (below_alloc _ _)).below (below_alloc _ _), h3.below (below_alloc _ _), h4⟩
theorem CB.put {W wr : World} {sa : Option Addr} {n sc : Nat} {v : SetV} (h : CB W wr sa n sc v) (s : Value) (u : SetV) : Below W.heap.size W (putX (wr.setCell ⟨W.heap.size + 1 + 1, 0, none⟩ s) (W.heap.size + 1 + 1 + 1) u) :=
  (h.bel.trans ((kept_putS wr (W.heap.size + 1 + 1) s).below (by omega))).trans ((kept_putX _ _ u).below (by omega))
theorem cloneE_lo (name : ByteArray) (fa : Option Addr) (fn fc : Nat) (l : List Ent) (w : World) (h6 : fn ≤ 6) (hnm : name.size ≤ maxLen) (hE : EntsAt (fun _ => True) w fa fn l) :
    Calls Tryz.prog 82 #[.slice fa fn fc] w fun e w' => (∃ (ya : Option Addr) (yc lo : Nat), e = .returned (.slice ya fn yc) ∧ w.heap.size ≤ lo ∧ SetNew lo (fun b => lo ≤ b) w' ⟨name, ya, fn, yc, none, 0, 0⟩ ⟨name, l, []⟩ []) ∧ Below w.heap.size w w' := by
  refine (cloneE_any fa fn fc (entCells l) w (by omega) (by rw [entCells_len, hE.1]) (entCells_one _) (hE.srcAt.src (Nat.le_refl _))).mono ?_
  rintro e w' ⟨b, ya, yc, rfl, _, hr⟩
  exact ⟨⟨ya, yc, w.heap.size, rfl, Nat.le_refl _, ⟨rfl, hnm, hr, ⟨rfl, .inl ⟨rfl, rfl⟩⟩, rfl, hE.2.1, fun m hm => by simp at hm, fun b _ h => by cases h⟩⟩, b⟩
/-- a clone has just what a snap has, and is held besides -/
structure ClF (n : Nat) (B C : Nat → Blk) (x y : SetE) : Prop where
  none : y.snaps = []
  snap : ∃ q, ∃ h : q < x.snaps.length, y.files = x.snaps[q].files
  more : ∀ k, k < n → C k = moreB B (rootsX y) k
/-- what Clone leaves -/
def RetCl (w : World) (n : Nat) (B : Nat → Blk) (key : Int) (x : SetE) (cc : Int) (e : Ending) (w' : World) : Prop :=
  Below w.heap.size w w' ∧ ((∃ e' : Int, e = .returned (.tuple #[.agg #[.slice none 0 0], .agg #[.string (ByteArray.mk #[]), .slice none 0 0, .slice none 0 0], .int .i64 e']) ∧ e' ≠ 0) ∨
    (∃ (g : Nat) (C : Nat → Blk) (u : SetV) (y : SetE) (K : List Int), e = .returned (.tuple #[.agg #[.slice (some ⟨g, 0, none⟩) n n], .agg #[.string u.name, .slice u.fa u.fn u.fc, .slice u.sa u.sn u.sc], .int .i64 0]) ∧ SetOk n B key x ∧ HeldR n B (rootsX x) ∧ Grow n B C K ∧ (∀ r : Int, r ≠ 0 → (rootsX y).count r = K.count r) ∧ SetOk n C key y ∧ HeldR n C (rootsX y) ∧ ClF n B C x y ∧ (∀ k, k < n → (C k).refs ≤ cc + 6) ∧ (w.heap.size ≤ g ∧ Own w' g n C) ∧ SetAt (fun b => w.heap.size ≤ b) w' u y))
theorem RetCl.drew {w w' : World} {n : Nat} {B : Nat → Blk} {key : Int} {x : SetE} {cc : Int} {e : Ending} (h : RetCl w n B key x cc e w') : RetCl w n B key x cc e w'.drew := by
  obtain ⟨b, h⟩ := h
  refine ⟨b.trans (below_drew _ _), ?_⟩
  rcases h with h | ⟨g, C, u, y, K, h1, h2, h3, h4, h5, h6, h7, h8, h9, h10, h11⟩
  · exact .inl h
  · exact .inr ⟨g, C, u, y, K, h1, h2, h3, h4, h5, h6, h7, h8, h9, ⟨h10.1, h10.2.below (below_drew _ _)⟩, h11.below (below_drew _ _)⟩
/-- nothing is let go: what is held besides alone -/
theorem grow_of_fell {n : Nat} {B D : Nat → Blk} {K : List Int} (hB : Right n B) (hK : ∀ r ∈ K, r = 0 ∨ There n B r) (hc : ∀ i, i < n → (B i).refs + (K.length : Int) ≤ 1000000) (hD : Right n D) (hF : Fell n (moreB B K) D []) : Grow n B D K ∧ (∀ k, k < n → (D k).refs = (B k).refs + (K.count ((k : Int) + 1) : Int)) ∧ ∀ k, k < n → D k = moreB B K k := by
  have hE := right_moreB hB hK hc
  have hg := grow_moreB hB hK hc
  have he : ∀ k, k < n → D k = moreB B K k := same_of hD hE (fun k hk => by
    by_cases e1 : (D k).refs = 0
    · exact .inl e1
    have e0 : ((k : Int) + 1 - 1).toNat = k := by omega
    have hcD := fell_content hF (x := (k : Int) + 1) ⟨by omega, by omega, by rw [e0]; exact e1⟩
    rw [e0] at hcD
    exact .inr (.inr hcD)) (fun k hk => by rw [hF.outs k hk]; simp)
  refine ⟨⟨hD, ⟨fun k hk h0 => ?_⟩, fun k hk => by rw [hF.outs k hk, outs_moreB]; simp⟩, fun k hk => by rw [he k hk]; rfl, he⟩
  rw [he k hk]
  exact hg.ext.keep k hk h0

/-- behind the stores into the results -/
theorem fin_cl {w w2 WC : World} {sa : Option Addr} {n sc : Nat} {B D : Nat → Blk} {key : Int} {v u : SetV} {x : SetE} {name : ByteArray} {l2 : List Ent} {g : Nat} {cc : Int} {L : Nat → Prop} {ms : List SnapM} (hcb : CB w WC sa n sc v) (hsz2 : w.heap.size + 4 ≤ w2.heap.size) (g8 : w2.heap.size ≤ g) (hx : SetOk n B key x) (hh : HeldR n B (rootsX x)) (hg : Grow n B D (rootsX ⟨name, l2, []⟩)) (hcf : ClF n B D x ⟨name, l2, []⟩) (hok : SetOk n D key ⟨name, l2, []⟩) (hheld : HeldR n D (rootsX ⟨name, l2, []⟩)) (hfew : ∀ k, k < n → (D k).refs ≤ cc + 6) (hOD : Own WC g n D) (hSN : SetNew w2.heap.size L WC u ⟨name, l2, []⟩ ms) (hL : ∀ b, L b → w2.heap.size ≤ b) :
    RetCl w n B key x cc (.returned (.tuple #[.agg #[.slice (some ⟨g, 0, none⟩) n n], .agg #[.string name, .slice u.fa u.fn u.fc, .slice u.sa u.sn u.sc], .int .i64 0])) (putX (WC.setCell ⟨w.heap.size + 1 + 1, 0, none⟩ (.slice (some ⟨g, 0, none⟩) n n)) (w.heap.size + 1 + 1 + 1) ⟨name, u.fa, u.fn, u.fc, u.sa, u.sn, u.sc⟩) := by
  have k1 := kept_putS WC (w.heap.size + 1 + 1) (.slice (some ⟨g, 0, none⟩) n n)
  have k2 := kept_putX (WC.setCell ⟨w.heap.size + 1 + 1, 0, none⟩ (.slice (some ⟨g, 0, none⟩) n n)) (w.heap.size + 1 + 1 + 1) ⟨name, u.fa, u.fn, u.fc, u.sa, u.sn, u.sc⟩
  have o1 := Only.of_kept (M := fun k => k = w.heap.size + 1 + 1 ∨ k = w.heap.size + 1 + 1 + 1) k1 (.inl rfl)
  have o2 := Only.of_kept (M := fun k => k = w.heap.size + 1 + 1 ∨ k = w.heap.size + 1 + 1 + 1) k2 (.inr rfl)
  have on := o1.trans o2
  have hS2 := (hSN.only on (fun b hb m => by have := (hSN.mine_ge hb).1; omega) (fun b hb m => by have := hL b hb; omega)).at
  refine ⟨hcb.put _ _, .inr ⟨g, D, ⟨name, u.fa, u.fn, u.fc, u.sa, u.sn, u.sc⟩, ⟨name, l2, []⟩, _, rfl, hx, hh, hg, fun _ _ => rfl, hok, hheld, hcf, hfew, ⟨by omega, own_only hOD on (fun b _ m => by omega)⟩, ?_⟩⟩
  exact ⟨rfl, hS2.small, hS2.files.weaken (fun b _ h => by rcases h with h | h; (· omega); have := hL b h; omega), hS2.snaps.weaken (fun b _ h => by rcases h with h | h; (· omega); have := hL b h; omega), hS2.caps⟩

end Go.Proofs.YtnmcgmpmcliinaaGreat

namespace Go.Proofs.YtnmcgmpmcliinaaGreat
open Go.RowKit

/-- why it refuses -/
def ClNo (n : Nat) (B : Nat → Blk) (key : Int) (x : SetE) (from' name : ByteArray) (e : Ending) : Prop := (∃ (v w : Value) (e' : Int), e = .returned (.tuple #[v, w, .int .i64 e']) ∧ e' ≠ 0) → SetOk n B key x → HeldR n B (rootsX x) → IsName name → ¬ ∃ s ∈ x.snaps, s.nm = from'.data.toList
theorem clNo_yes {n : Nat} {B : Nat → Blk} {key : Int} {x : SetE} {from' name : ByteArray} {v w : Value} : ClNo n B key x from' name (.returned (.tuple #[v, w, .int .i64 0])) := by
  rintro ⟨v', w', e', h, h0⟩
  simp at h
  exact absurd h.2.2.symm h0
set_option maxHeartbeats 8000000 in
set_option maxRecDepth 100000 in
theorem clone_full (sa : Option Addr) (n sc : Nat) (B : Nat → Blk) (key : Int) (v : SetV) (x : SetE) (from' name : ByteArray) (cc : Int) (w : World) (hs : StoreAt w sa n B) (hX : SetAt (fun _ => True) w v x) (hfr : from'.size ≤ maxLen) (hnsm : name.size ≤ maxLen) (hc : ∀ k, k < n → (B k).refs ≤ cc) (hcc : cc + 6 ≤ 1000000) :
    Calls Tryz.prog 42 #[.agg #[.slice sa n sc], .int .i64 key, v.val, .string from', .string name] w fun e w' => RetCl w n B key x cc e w' ∧ ClNo n B key x from' name e := by
  have hcb := hid (cb_enter w sa n sc v)
  unfold SetV.val
  replace hs := hid hs
  replace hX := hid hX
  replace hc := hid hc
  have hcc' := hid hcc
  replace hnsm := hid hnsm
  clear hcc
  go_enter Tryz.func42, Tryz.ntmps42
  go_wp2_with fail
  generalize (((w.alloc (.cells #[.slice sa n sc] 24)).alloc (.cells #[.string v.name, .slice v.fa v.fn v.fc, .slice v.sa v.sn v.sc] 47)).alloc (.cells #[.slice none 0 0] 24)).alloc (.cells #[.string (ByteArray.mk #[]), .slice none 0 0, .slice none 0 0] 47) = w0 at *
  refine (checkHeld_any (fun _ => True) sa n sc B key v x w0 (hs.out.below hcb.out.bel) (hX.out.below hcb.out.bel)).mono ?_
  rintro e w1 ⟨⟨e', rfl, he⟩, b1⟩
  replace hcb := hid (hcb.out.below b1)
  replace he := hid he
  clear b1
  by_cases h0 : e' = 0
  case neg =>
    have h0' : (e' == 0) = false := by simp [h0]
    have q1 := hcb.out.r8.cell 0
    have q2 := hcb.out.r8.frozen 0
    have q3 := hcb.out.r9.cell 0
    have q4 := hcb.out.r9.frozen 0
    have q5 := hcb.out.r9.cell 1
    have q6 := hcb.out.r9.frozen 1
    have q7 := hcb.out.r9.cell 2
    have q8 := hcb.out.r9.frozen 2
    simp at q1 q3 q5 q7
    go_wp2_with fail
    refine bodyPost_ret (v := .tuple #[.agg #[.slice none 0 0], .agg #[.string (ByteArray.mk #[]), .slice none 0 0, .slice none 0 0], .int .i64 e']) (by rw [results_cells2 rfl]; go_simp) rfl ⟨⟨hcb.out.put (.slice none 0 0) ⟨(ByteArray.mk #[]), none, 0, 0, none, 0, 0⟩, .inl ⟨e', rfl, h0⟩⟩, fun _ h1 h2 _ => absurd (he.out.2 ⟨h1, h2⟩) h0⟩
  subst h0
  obtain ⟨hx, hh⟩ := he.out.1 rfl
  clear he
  have hsn3 := hx.shape.fewS
  have hoS := hid hx.shape.orderS
  replace hx := hid hx
  replace hh := hid hh
  have hsl := hX.out.snaps.1
  have hvs : v.sn ≤ 3 := by omega
  go_wp2_with fail
  refine (name_any name w1 hnsm.out).mono ?_
  rintro e w1' ⟨⟨t, rfl, ht⟩, rfl⟩
  cases t
  case false =>
    replace ht := hid ht
    have q1 := hcb.out.r8.cell 0
    have q2 := hcb.out.r8.frozen 0
    have q3 := hcb.out.r9.cell 0
    have q4 := hcb.out.r9.frozen 0
    have q5 := hcb.out.r9.cell 1
    have q6 := hcb.out.r9.frozen 1
    have q7 := hcb.out.r9.cell 2
    have q8 := hcb.out.r9.frozen 2
    simp at q1 q3 q5 q7
    go_wp2_with fail
    refine bodyPost_ret (v := .tuple #[.agg #[.slice none 0 0], .agg #[.string (ByteArray.mk #[]), .slice none 0 0, .slice none 0 0], .int .i64 1]) (by rw [results_cells2 rfl]; go_simp) rfl ⟨⟨hcb.out.put (.slice none 0 0) ⟨(ByteArray.mk #[]), none, 0, 0, none, 0, 0⟩, .inl ⟨1, rfl, (by omega)⟩⟩, fun _ _ _ h3 => absurd (ht.out.2 h3) Bool.false_ne_true⟩
  have hnm := hid (ht.1 rfl)
  clear ht
  have s2 := hcb.out.bX.cell 2
  simp at s2
  go_wp2_with fail
  refine (findS_any (fun _ => True) v.sa v.sn v.sc x.snaps from' w1' (by omega) (hX.out.snaps.below hcb.out.bel) hoS.out).mono ?_
  rintro e w2 ⟨⟨q, b, rfl, hF⟩, b2⟩
  replace hcb := hid (hcb.out.below b2)
  clear b2 s2
  cases b
  case false =>
    have hFn := hid hF
    clear hF
    have q1 := hcb.out.r8.cell 0
    have q2 := hcb.out.r8.frozen 0
    have q3 := hcb.out.r9.cell 0
    have q4 := hcb.out.r9.frozen 0
    have q5 := hcb.out.r9.cell 1
    have q6 := hcb.out.r9.frozen 1
    have q7 := hcb.out.r9.cell 2
    have q8 := hcb.out.r9.frozen 2
    simp at q1 q3 q5 q7
    go_wp2_with fail
    refine bodyPost_ret (v := .tuple #[.agg #[.slice none 0 0], .agg #[.string (ByteArray.mk #[]), .slice none 0 0, .slice none 0 0], .int .i64 5]) (by rw [results_cells2 rfl]; go_simp) rfl ⟨⟨hcb.out.put (.slice none 0 0) ⟨(ByteArray.mk #[]), none, 0, 0, none, 0, 0⟩, .inl ⟨5, rfl, (by omega)⟩⟩, fun _ _ _ _ h4 => absurd ((found_some hoS.out hFn.out).2 h4) Bool.false_ne_true⟩
  obtain ⟨hq, _⟩ := found_at hF
  clear hF
  have hqv : q < v.sn := by omega
  obtain ⟨sb, so, hsb⟩ : ∃ b off, v.sa = some ⟨b, off, none⟩ := by
    obtain ⟨b, off, e, _⟩ := hX.out.snaps.2 (by omega)
    exact ⟨b, off, e⟩
  have hSn := hX.out.snaps
  rw [hsb] at hSn
  obtain ⟨fa2, fn2, fc2, hAt⟩ := hSn.snap hqv
  have lsb0 : sb < w.heap.size := cell_lt hAt.c0
  have hgd : x.snaps.getD q SnapE.zero = x.snaps[q] := by simp [List.getD, hq]
  rw [hgd] at hAt
  have hmemq := List.getElem_mem hq
  have hl2 : Hid (∃ l2, l2 = x.snaps[q].files) := hid ⟨_, rfl⟩
  obtain ⟨l2, hl2⟩ := hl2.out
  have hE2 := hAt.files
  rw [← hl2] at hE2
  have hl6 : fn2 ≤ 6 := by rw [← hE2.1, hl2]; exact (hx.out.shape.filesS _ hmemq).1
  have c1 := hAt.c1
  have s1 := hcb.out.bX.cell 2
  simp at s1
  rw [hsb] at s1
  have s2 := (hcb.out.bel.cell (p := ⟨sb, so + q * 2 + 1, none⟩) lsb0).trans c1
  have S1 := hid s1
  have S2 := hid s2
  have lx := hcb.out.bX.lt
  have hszdb := hcb.out.sz
  have lsb : sb < w2.heap.size := by omega
  have m1 := Nat.ne_of_lt lx
  have m2 : w.heap.size + 1 ≠ w2.heap.size + 1 := by omega
  have m3 : w.heap.size ≠ w2.heap.size := by omega
  have n1 := Nat.ne_of_lt lsb
  have n2 : sb ≠ w2.heap.size + 1 := by omega
  have m1' := m1.symm
  have m2' := m2.symm
  have m3' := m3.symm
  have n1' := n1.symm
  have n2' := n2.symm
  have hq0 : (0 : Int) ≤ (q : Int) := by omega
  have hq1 : (q : Int) < (v.sn : Int) := by omega
  have hn4 : n ≤ 400 := hx.out.right.small
  have hF4 : Hid (∀ i, i < n → (B i).kids.length ≤ 4 ∧ (B i).bytes.length ≤ 4) := hid (fun i hi => ⟨(hx.out.right.one i hi).few, (hx.out.right.one i hi).few2⟩)
  have hptr := hid (fun W0 (bb : Below w2.heap.size w2 W0) => (PtrAt.mk hcb.out.bS.lt (by have := hcb.out.bS.cell 0; simpa using this) (hs.out.below hcb.out.bel) : PtrAt w2 ⟨w.heap.size, 0, none⟩ sa n sc B).below bb)
  have hents := hid (fun W0 (bb : Below w2.heap.size w2 W0) => (hE2.below hcb.out.bel).below bb)
  replace hl2 := hid hl2
  clear hAt hSn hgd c1 hE2
  replace hsb := hid hsb
  go_upto_region 9 with fail
  go_cut [16, 17] from 43 (fun v12 v13 wc => GotD w2 wc n B ⟨name, l2, []⟩ v12 v13)
  case first =>
    go_region_held3 (fun w' => w'.cell? ⟨w.heap.size + 1, 2, none⟩ = some (.slice (some ⟨sb, so, none⟩) v.sn v.sc) ∧ w'.cell? ⟨sb, so + q * 2 + 1, none⟩ = some (.slice fa2 fn2 fc2)) (first | go_keep | assumption) (first | (go_at_call 45; refine Calls.mono (copy_any ⟨w.heap.size, 0, none⟩ sa n sc B _ ?_ hn4 hF4.out) ?_; (focus (refine hptr.out _ ?_; (repeat (first | with_reducible exact Below.refl _ _ | with_reducible exact bbO.out | with_reducible exact bbS.out | with_reducible refine bDr ?_ | with_reducible refine bAl ?_ _)); done)); rintro e wO ⟨bNew, gO, rfl, hgO, hO⟩; refine cutTo (le_of_chain (a := w2) ?_ hgO) ?_; (focus ((repeat (first | with_reducible exact Below.refl _ _ | with_reducible exact bbO.out | with_reducible exact bbS.out | with_reducible refine bDr ?_ | with_reducible refine bAl ?_ _)); done)); intro hg2; refine cutTo (A := Below w2.heap.size w2 wO) ?_ ?_; (focus (refine Below.tr ?_ bNew; (repeat (first | with_reducible exact Below.refl _ _ | with_reducible exact bbO.out | with_reducible exact bbS.out | with_reducible refine bDr ?_ | with_reducible refine bAl ?_ _)); done)); intro bTmp; have bbO := hid bTmp; clear bTmp; (first | (refine cutTo (CellsAt.below kaS.out (Below.tr ?_ bNew)) ?_; (focus ((repeat (first | with_reducible exact Below.refl _ _ | with_reducible refine bDr ?_ | with_reducible refine bAl ?_ _)); done)); intro kTmp; have kaO := hid kTmp; clear kTmp) | (refine cutTo (CellsAt.below (cellsAt_alloc wS #[.slice none 0 0] 24) (Below.tr ?_ bNew)) ?_; (focus ((repeat (first | with_reducible exact Below.refl _ _ | with_reducible refine bDr ?_ | with_reducible refine bAl ?_ _)); done)); intro kTmp; have kaO := hid kTmp; clear kTmp) | (refine cutTo (CellsAt.below (cellsAt_alloc2 wS obj0X #[.slice none 0 0] 24) (Below.tr ?_ bNew)) ?_; (focus ((repeat (first | with_reducible exact Below.refl _ _ | with_reducible refine bDr ?_ | with_reducible refine bAl ?_ _)); done)); intro kTmp; have kaO := hid kTmp; clear kTmp) | (refine cutTo (CellsAt.below (cellsAt_alloc w2 #[.slice none 0 0] 24) (Below.tr ?_ bNew)) ?_; (focus ((repeat (first | with_reducible exact Below.refl _ _ | with_reducible refine bDr ?_ | with_reducible refine bAl ?_ _)); done)); intro kTmp; have kaO := hid kTmp; clear kTmp) | (refine cutTo (CellsAt.below (cellsAt_alloc2 w2 obj0X #[.slice none 0 0] 24) (Below.tr ?_ bNew)) ?_; (focus ((repeat (first | with_reducible exact Below.refl _ _ | with_reducible refine bDr ?_ | with_reducible refine bAl ?_ _)); done)); intro kTmp; have kaO := hid kTmp; clear kTmp) | skip); (first | (refine cutTo (CellsAt.below kbS.out (Below.tr ?_ bNew)) ?_; (focus ((repeat (first | with_reducible exact Below.refl _ _ | with_reducible refine bDr ?_ | with_reducible refine bAl ?_ _)); done)); intro kTmp; have kbO := hid kTmp; clear kTmp) | (refine cutTo (CellsAt.below (cellsAt_alloc wS #[.string (ByteArray.mk #[]), .slice none 0 0, .slice none 0 0] 47) (Below.tr ?_ bNew)) ?_; (focus ((repeat (first | with_reducible exact Below.refl _ _ | with_reducible refine bDr ?_ | with_reducible refine bAl ?_ _)); done)); intro kTmp; have kbO := hid kTmp; clear kTmp) | (refine cutTo (CellsAt.below (cellsAt_alloc2 wS obj0S #[.string (ByteArray.mk #[]), .slice none 0 0, .slice none 0 0] 47) (Below.tr ?_ bNew)) ?_; (focus ((repeat (first | with_reducible exact Below.refl _ _ | with_reducible refine bDr ?_ | with_reducible refine bAl ?_ _)); done)); intro kTmp; have kbO := hid kTmp; clear kTmp) | (refine cutTo (CellsAt.below (cellsAt_alloc w2 #[.string (ByteArray.mk #[]), .slice none 0 0, .slice none 0 0] 47) (Below.tr ?_ bNew)) ?_; (focus ((repeat (first | with_reducible exact Below.refl _ _ | with_reducible refine bDr ?_ | with_reducible refine bAl ?_ _)); done)); intro kTmp; have kbO := hid kTmp; clear kTmp) | (refine cutTo (CellsAt.below (cellsAt_alloc2 w2 obj0S #[.string (ByteArray.mk #[]), .slice none 0 0, .slice none 0 0] 47) (Below.tr ?_ bNew)) ?_; (focus ((repeat (first | with_reducible exact Below.refl _ _ | with_reducible refine bDr ?_ | with_reducible refine bAl ?_ _)); done)); intro kTmp; have kbO := hid kTmp; clear kTmp) | skip); (try (refine cutTo (le_of_chain (a := wS) ?_ hgO) ?_; (focus ((repeat (first | with_reducible exact Below.refl _ _ | with_reducible refine bDr ?_ | with_reducible refine bAl ?_ _)); done)); intro hap; refine cutTo (A := Below wS.heap.size wS wO) ?_ ?_; (focus (refine Below.tr ?_ bNew; (repeat (first | with_reducible exact Below.refl _ _ | with_reducible refine bDr ?_ | with_reducible refine bAl ?_ _)); done)); intro bTmp; have cop := hid (cop_of (W := w2) hO hg2 (Below.refl _ _) hS.out hlo bTmp (.inr hap)); have bbL := bbO; have hszL := bTmp.size; clear bTmp)); have hszO := bbO.out.size; have m1O : w.heap.size + 1 ≠ wO.heap.size := (by omega); have m2O : w.heap.size + 1 ≠ wO.heap.size + 1 := (by omega); have m3O : w.heap.size ≠ wO.heap.size := (by omega); have n1O : sb ≠ wO.heap.size := (by omega); have n2O : sb ≠ wO.heap.size + 1 := (by omega); have n1O' := n1O.symm; have n2O' := n2O.symm; have m3O' := m3O.symm; have m1O' := m1O.symm; have m2O' := m2O.symm; have s1O := (bbO.out.cell (p := ⟨w.heap.size + 1, 2, none⟩) lx).trans S1.out; have s2O := (bbO.out.cell (p := ⟨sb, so + q * 2 + 1, none⟩) lsb).trans S2.out; (try clear s1 s2); (try (have lkaO := kaO.out.lt; have nkaO := Nat.ne_of_lt lkaO; have nkaO' := nkaO.symm; have caO := kaO.out.cell 0; have fraO := kaO.out.frozen 0; simp only [List.getElem?_toArray, List.getElem?_cons_zero] at caO)); (try (have lkbO := kbO.out.lt; have nkbO := Nat.ne_of_lt lkbO; have nkbO' := nkbO.symm; have cb0O := kbO.out.cell 0; have cb1O := kbO.out.cell 1; have cb2O := kbO.out.cell 2; have frb0O := kbO.out.frozen 0; have frb1O := kbO.out.frozen 1; have frb2O := kbO.out.frozen 2; simp only [List.getElem?_toArray, List.getElem?_cons_zero, List.getElem?_cons_succ] at cb0O cb1O cb2O)); (try clear s1S s2S); (try clear caS fraS); (try clear cb0S cb1S cb2S frb0S frb1S frb2S); have hgz := hgO; (try simp only [sz_drew] at hgz); (try simp only [sz_alloc] at hgz); replace hO := hid hO; have hgl := hO.out.lt; clear bNew hgO) | (go_at_call 82; refine Calls.mono (cloneE_lo name fa2 fn2 fc2 l2 _ hl6 hnsm.out ?_) ?_; (focus (refine hents.out _ ?_; (repeat (first | with_reducible exact Below.refl _ _ | with_reducible exact bbO.out | with_reducible exact bbS.out | with_reducible refine bDr ?_ | with_reducible refine bAl ?_ _)); done)); rintro e wS ⟨⟨ya, yc, lo, rfl, hlz, hS⟩, bNew⟩; refine cutTo (le_of_chain (a := w2) ?_ hlz) ?_; (focus ((repeat (first | with_reducible exact Below.refl _ _ | with_reducible exact bbO.out | with_reducible exact bbS.out | with_reducible refine bDr ?_ | with_reducible refine bAl ?_ _)); done)); intro hlo; refine cutTo (A := Below w2.heap.size w2 wS) ?_ ?_; (focus (refine Below.tr ?_ bNew; (repeat (first | with_reducible exact Below.refl _ _ | with_reducible exact bbO.out | with_reducible exact bbS.out | with_reducible refine bDr ?_ | with_reducible refine bAl ?_ _)); done)); intro bTmp; have bbS := hid bTmp; clear bTmp; (first | (refine cutTo (CellsAt.below kaO.out (Below.tr ?_ bNew)) ?_; (focus ((repeat (first | with_reducible exact Below.refl _ _ | with_reducible refine bDr ?_ | with_reducible refine bAl ?_ _)); done)); intro kTmp; have kaS := hid kTmp; clear kTmp) | (refine cutTo (CellsAt.below (cellsAt_alloc wO #[.slice none 0 0] 24) (Below.tr ?_ bNew)) ?_; (focus ((repeat (first | with_reducible exact Below.refl _ _ | with_reducible refine bDr ?_ | with_reducible refine bAl ?_ _)); done)); intro kTmp; have kaS := hid kTmp; clear kTmp) | (refine cutTo (CellsAt.below (cellsAt_alloc2 wO obj0X #[.slice none 0 0] 24) (Below.tr ?_ bNew)) ?_; (focus ((repeat (first | with_reducible exact Below.refl _ _ | with_reducible refine bDr ?_ | with_reducible refine bAl ?_ _)); done)); intro kTmp; have kaS := hid kTmp; clear kTmp) | (refine cutTo (CellsAt.below (cellsAt_alloc w2 #[.slice none 0 0] 24) (Below.tr ?_ bNew)) ?_; (focus ((repeat (first | with_reducible exact Below.refl _ _ | with_reducible refine bDr ?_ | with_reducible refine bAl ?_ _)); done)); intro kTmp; have kaS := hid kTmp; clear kTmp) | (refine cutTo (CellsAt.below (cellsAt_alloc2 w2 obj0X #[.slice none 0 0] 24) (Below.tr ?_ bNew)) ?_; (focus ((repeat (first | with_reducible exact Below.refl _ _ | with_reducible refine bDr ?_ | with_reducible refine bAl ?_ _)); done)); intro kTmp; have kaS := hid kTmp; clear kTmp) | skip); (first | (refine cutTo (CellsAt.below kbO.out (Below.tr ?_ bNew)) ?_; (focus ((repeat (first | with_reducible exact Below.refl _ _ | with_reducible refine bDr ?_ | with_reducible refine bAl ?_ _)); done)); intro kTmp; have kbS := hid kTmp; clear kTmp) | (refine cutTo (CellsAt.below (cellsAt_alloc wO #[.string (ByteArray.mk #[]), .slice none 0 0, .slice none 0 0] 47) (Below.tr ?_ bNew)) ?_; (focus ((repeat (first | with_reducible exact Below.refl _ _ | with_reducible refine bDr ?_ | with_reducible refine bAl ?_ _)); done)); intro kTmp; have kbS := hid kTmp; clear kTmp) | (refine cutTo (CellsAt.below (cellsAt_alloc2 wO obj0S #[.string (ByteArray.mk #[]), .slice none 0 0, .slice none 0 0] 47) (Below.tr ?_ bNew)) ?_; (focus ((repeat (first | with_reducible exact Below.refl _ _ | with_reducible refine bDr ?_ | with_reducible refine bAl ?_ _)); done)); intro kTmp; have kbS := hid kTmp; clear kTmp) | (refine cutTo (CellsAt.below (cellsAt_alloc w2 #[.string (ByteArray.mk #[]), .slice none 0 0, .slice none 0 0] 47) (Below.tr ?_ bNew)) ?_; (focus ((repeat (first | with_reducible exact Below.refl _ _ | with_reducible refine bDr ?_ | with_reducible refine bAl ?_ _)); done)); intro kTmp; have kbS := hid kTmp; clear kTmp) | (refine cutTo (CellsAt.below (cellsAt_alloc2 w2 obj0S #[.string (ByteArray.mk #[]), .slice none 0 0, .slice none 0 0] 47) (Below.tr ?_ bNew)) ?_; (focus ((repeat (first | with_reducible exact Below.refl _ _ | with_reducible refine bDr ?_ | with_reducible refine bAl ?_ _)); done)); intro kTmp; have kbS := hid kTmp; clear kTmp) | skip); (try (refine cutTo (le_of_chain (a := wO) ?_ hlz) ?_; (focus ((repeat (first | with_reducible exact Below.refl _ _ | with_reducible refine bDr ?_ | with_reducible refine bAl ?_ _)); done)); intro hap; refine cutTo (A := Below wO.heap.size wO wS) ?_ ?_; (focus (refine Below.tr ?_ bNew; (repeat (first | with_reducible exact Below.refl _ _ | with_reducible refine bDr ?_ | with_reducible refine bAl ?_ _)); done)); intro bTmp; have cop := hid (cop_of (W := w2) hO.out hg2 bTmp hS hlo (Below.refl _ _) (.inl hap)); have bbL := bbS; have hszL := bTmp.size; clear bTmp)); have hszS := bbS.out.size; have m1S : w.heap.size + 1 ≠ wS.heap.size := (by omega); have m2S : w.heap.size + 1 ≠ wS.heap.size + 1 := (by omega); have m3S : w.heap.size ≠ wS.heap.size := (by omega); have n1S : sb ≠ wS.heap.size := (by omega); have n2S : sb ≠ wS.heap.size + 1 := (by omega); have n1S' := n1S.symm; have n2S' := n2S.symm; have m3S' := m3S.symm; have m1S' := m1S.symm; have m2S' := m2S.symm; have s1S := (bbS.out.cell (p := ⟨w.heap.size + 1, 2, none⟩) lx).trans S1.out; have s2S := (bbS.out.cell (p := ⟨sb, so + q * 2 + 1, none⟩) lsb).trans S2.out; (try clear s1 s2); (try (have lkaS := kaS.out.lt; have nkaS := Nat.ne_of_lt lkaS; have nkaS' := nkaS.symm; have caS := kaS.out.cell 0; have fraS := kaS.out.frozen 0; simp only [List.getElem?_toArray, List.getElem?_cons_zero] at caS)); (try (have lkbS := kbS.out.lt; have nkbS := Nat.ne_of_lt lkbS; have nkbS' := nkbS.symm; have cb0S := kbS.out.cell 0; have cb1S := kbS.out.cell 1; have cb2S := kbS.out.cell 2; have frb0S := kbS.out.frozen 0; have frb1S := kbS.out.frozen 1; have frb2S := kbS.out.frozen 2; simp only [List.getElem?_toArray, List.getElem?_cons_zero, List.getElem?_cons_succ] at cb0S cb1S cb2S)); (try clear s1O s2O); (try clear caO fraO); (try clear cb0O cb1O cb2O frb0O frb1O frb2O); (try simp only [sz_drew] at hlz); (try simp only [sz_alloc] at hlz); replace hS := hid hS; clear bNew))
    all_goals (go_wp2_with fail; go_meet; first
      | (with_reducible refine gotd_cab cop.out ?_ bbL.out; all_goals (first | omega | (intro f; rcases f with f | f <;> omega) | (intro b f; rcases f with f | f <;> omega)))
      | (with_reducible refine gotd_cba cop.out ?_ bbL.out; all_goals (first | omega | (intro f; rcases f with f | f <;> omega) | (intro b f; rcases f with f | f <;> omega)))
      | (with_reducible refine gotd_acb ?_ ?_ kaS.out cop.out ?_ bbL.out; all_goals (first | omega | (intro f; rcases f with f | f <;> omega) | (intro b f; rcases f with f | f <;> omega)))
      | (with_reducible refine gotd_bca ?_ ?_ kbS.out cop.out ?_ bbL.out; all_goals (first | omega | (intro f; rcases f with f | f <;> omega) | (intro b f; rcases f with f | f <;> omega)))
      | (with_reducible refine gotd_abc ?_ ?_ ?_ ?_ ?_ kaS.out kbS.out cop.out bbL.out; all_goals (first | omega | (intro f; rcases f with f | f <;> omega) | (intro b f; rcases f with f | f <;> omega)))
      | (with_reducible refine gotd_acb ?_ ?_ kaO.out cop.out ?_ bbL.out; all_goals (first | omega | (intro f; rcases f with f | f <;> omega) | (intro b f; rcases f with f | f <;> omega)))
      | (with_reducible refine gotd_bca ?_ ?_ kbO.out cop.out ?_ bbL.out; all_goals (first | omega | (intro f; rcases f with f | f <;> omega) | (intro b f; rcases f with f | f <;> omega)))
      | (with_reducible refine gotd_abc ?_ ?_ ?_ ?_ ?_ kaO.out kbO.out cop.out bbL.out; all_goals (first | omega | (intro f; rcases f with f | f <;> omega) | (intro b f; rcases f with f | f <;> omega))))
  case rest =>
    obtain ⟨ob, yb, g, u, ms, P, rfl, rfl, hT, bC, lo, ly, lg⟩ := hcut
    clear S1 S2 s1 s2 m1 m2 m1' m2' m3 m3' n1 n1' n2 n2' hptr hents lx lsb
    have hcbC := hid (hcb.out.below bC)
    have y0 := hT.set.box.cell 0
    have y1 := hT.set.box.cell 1
    have y2 := hT.set.box.cell 2
    simp at y0 y1 y2
    have hyn := hT.set.new.name
    have hsf := (hx.out.filesS _ hmemq)
    rw [← hl2.out] at hsf
    have hshy : Shape ⟨name, l2, []⟩ := ⟨hnm.out, hsf.few, hsf.names, hsf.order, by simp, fun s h => by simp at h, List.Pairwise.nil, fun s h => by simp at h⟩
    have hT' := hid hT
    replace bC := hid bC
    clear hT
    go_wp2_with fail
    refine (roots_lo (fun b => w2.heap.size ≤ b ∨ P b) u ⟨name, l2, []⟩ name _ hT'.out.set.new.at hshy hyn).mono ?_
    rintro e w4 ⟨⟨ra, rc, lo', rfl, hlo', hr, hw, _⟩, b4⟩
    have hgl := hT'.out.own.lt
    have hrt : rootsX ⟨name, l2, []⟩ = rootsE l2 := by simp [rootsX, rootsS]
    have hK : ∀ r ∈ rootsX ⟨name, l2, []⟩, r = 0 ∨ There n B r := fun r hr => by
      rw [hrt] at hr
      obtain ⟨e, he, rfl⟩ := mem_rootsE.1 hr
      rcases (hsf.files e he).rooted with h0 | ⟨h1, _⟩
      · exact .inl h0
      · exact .inr h1
    have hlen : (rootsX ⟨name, l2, []⟩).length ≤ 6 := by rw [hrt, length_rootsE]; exact hsf.few
    have hroom : ∀ i, i < n → (B i).refs + ((rootsX ⟨name, l2, []⟩).length : Int) ≤ 1000000 := fun i hi => by have := hc.out i hi; have := hcc'.out; omega
    have hN := hid ((nums_row hr hw).weaken (R := fun b => b ≠ g) (fun b _ q => by have := q.1; omega))
    have hT4 := hid (hT'.out.below b4)
    have hcb4 := hid (hcbC.out.below b4)
    have b4' := hid (Below.tr bC.out b4)
    replace hK := hid hK
    replace hrt := hid hrt
    replace hroom := hid hroom
    replace hlen := hid hlen
    clear y0 y1 y2 hr hw b4
    go_wp2_with fail
    refine (shift_any ⟨ob, 0, none⟩ g n B ra (rootsX ⟨name, l2, []⟩).length rc (rootsX ⟨name, l2, []⟩) none 0 0 [] w4 hT4.out.ptr hN.out ⟨rfl, fun x hx => by simp at hx, fun h => absurd h (by omega)⟩ (by omega) (by have := hlen.out; omega) hx.out.right hK.out hroom.out (fun k hk => by
      have h1 := hh.out k hk
      have h2 : (0 : Int) ≤ ((rootsX x).count ((k : Int) + 1) : Int) := by omega
      simp
      omega) (fun r hr => by simp at hr)).mono ?_
    rintro e w5 ⟨rfl, ho, D, hOP, hRD, hFD⟩
    obtain ⟨hg, hrefs, hmoreB⟩ := grow_of_fell hx.out.right hK.out hroom.out hRD hFD
    have on5 : Only (fun b => b = g) w4 w5 := Only.of_out ho rfl
    have hb5 : Below w2.heap.size w2 w5 := b4'.out.trans (ho.below hT4.out.ng.2.2.2 b4'.out.size)
    have hcb5 := hid (hcb.out.below hb5)
    have hyb : CellsAt w5 yb #[.string name, .slice u.fa u.fn u.fc, .slice u.sa u.sn u.sc] 47 := on5.cells hT4.out.set.box (fun e => hT4.out.ng.1 e.symm)
    have hSN := hT4.out.set.new.only on5 (fun b hb e => hT4.out.ng.2.1 (e ▸ hb)) (fun b hb e => hT4.out.ng.2.2.1 (e ▸ hb))
    have hLb := hT4.out.lb
    have g8 : w2.heap.size ≤ g := hT4.out.ng.2.2.2
    obtain ⟨hok, hheld, _⟩ := clone_ok (nm := name) hx.out hq hnm.out (by rw [← hl2.out, ← hrt.out]; exact hg) hh.out
    rw [← hl2.out] at hok hheld
    have hfew : ∀ k, k < n → (D k).refs ≤ cc + 6 := fun k hk => by
      rw [hrefs k hk]
      have h1 := hc.out k hk
      have h2 : (rootsX ⟨name, l2, []⟩).count ((k : Int) + 1) ≤ 6 := Nat.le_trans List.count_le_length hlen.out
      omega
    have J := hid (fin_cl hcb5.out hszdb g8 hx.out hh.out hg ⟨rfl, ⟨q, hq, hl2.out⟩, hmoreB⟩ hok hheld hfew hOP.own hSN hLb)
    have ho9 := hOP.cell
    have z0 := hyb.cell 0
    have z1 := hyb.cell 1
    have z2 := hyb.cell 2
    simp at z0 z1 z2
    have q1 := hcb5.out.r8.cell 0
    have q2 := hcb5.out.r8.frozen 0
    have q3 := hcb5.out.r9.cell 0
    have q4 := hcb5.out.r9.frozen 0
    have q5 := hcb5.out.r9.cell 1
    have q6 := hcb5.out.r9.frozen 1
    have q7 := hcb5.out.r9.cell 2
    have q8 := hcb5.out.r9.frozen 2
    simp at q1 q3 q5 q7
    have n1 : ob ≠ w.heap.size + 1 + 1 := by omega
    have n2 : ob ≠ w.heap.size + 1 + 1 + 1 := by omega
    have n3 : yb ≠ w.heap.size + 1 + 1 := by omega
    have n4 : yb ≠ w.heap.size + 1 + 1 + 1 := by omega
    have n1' := n1.symm
    have n2' := n2.symm
    have n3' := n3.symm
    have n4' := n4.symm
    clear hOP hyb hSN hLb ho on5 hg hrefs hok hheld hfew hRD hFD
    go_upto_region 11 with fail
    go_region_held3 (fun w' => w'.cell? ⟨ob, 0, none⟩ = some (.slice (some ⟨g, 0, none⟩) n n) ∧ w'.cell? ⟨yb, 0, none⟩ = some (.string name) ∧ w'.cell? ⟨yb, 1, none⟩ = some (.slice u.fa u.fn u.fc) ∧ w'.cell? ⟨yb, 2, none⟩ = some (.slice u.sa u.sn u.sc)) (first | go_keep | assumption) (first | fail)
    all_goals (
      go_wp2_with fail
      refine bodyPost_ret (v := .tuple #[.agg #[.slice (some ⟨g, 0, none⟩) n n], .agg #[.string name, .slice u.fa u.fn u.fc, .slice u.sa u.sn u.sc], .int .i64 0]) (by rw [results_cells2 rfl]; go_simp) rfl ?_
      first
        | exact ⟨J.out, clNo_yes⟩
        | exact ⟨J.out.drew, clNo_yes⟩)
theorem clone_any (sa : Option Addr) (n sc : Nat) (B : Nat → Blk) (key : Int) (v : SetV) (x : SetE) (from' name : ByteArray) (cc : Int) (w : World) (hs : StoreAt w sa n B) (hX : SetAt (fun _ => True) w v x) (hfr : from'.size ≤ maxLen) (hnsm : name.size ≤ maxLen) (hc : ∀ k, k < n → (B k).refs ≤ cc) (hcc : cc + 6 ≤ 1000000) :
    Calls Tryz.prog 42 #[.agg #[.slice sa n sc], .int .i64 key, v.val, .string from', .string name] w fun e w' => RetCl w n B key x cc e w' :=
  (clone_full sa n sc B key v x from' name cc w hs hX hfr hnsm hc hcc).mono (fun _ _ h => h.1)
end Go.Proofs.YtnmcgmpmcliinaaGreat

namespace Go.Proofs.YtnmcgmpmcliinaaGreat
open Go.RowKit

def w4 : List Int := [97, 98, 99, 100]
def w5 : List Int := [97, 98, 99, 100, 101]
def askA : AskE := ⟨3, nO, nF, nO, 0, 0, w4⟩
def askE : AskE := ⟨3, nO, nF, nO, 4, 0, [101]⟩
def nB : ByteArray := ByteArray.mk #[98]
theorem okA : askA.ok := by refine ⟨⟨?_, ?_, ?_⟩, ?_, ?_, ?_⟩ <;> decide
theorem okE : askE.ok := by refine ⟨⟨?_, ?_, ?_⟩, ?_, ?_, ?_⟩ <;> decide
theorem isName_B : IsName nB := ⟨by decide, by decide, by intro c hc; simp [nB] at hc; subst hc; left; decide⟩
theorem bytes_w4 : Bytes w4 := by intro x hx; simp [w4] at hx; omega
theorem bytes_e : Bytes [101] := by intro x hx; simp at hx; omega
theorem qover1 : overL ((zeros 256).take (0 : Int).toNat) (0 : Int).toNat w4 = w4 := by kernel_rfl
theorem qchgA : chg (zeros 256) (padTo w4) 64 = 1 := by kernel_rfl
theorem qover2 : overL ((padTo w4).take (4 : Int).toNat) (4 : Int).toNat [101] = w5 := by kernel_rfl
theorem qchgB : chg (padTo w4) (padTo w5) 64 = 1 := by kernel_rfl
theorem q_no1 : ¬ ChgNo 40 zeroB 1 x0 askA := fun h => by
  obtain ⟨root, size, hN, h1⟩ := h.1 rfl isName_F ⟨by decide, by decide⟩ (.inr (by decide))
  obtain ⟨rfl, rfl⟩ := named_x0 hN
  have e : overN 1 zeroB askA 0 0 = w4 := by
    show overL ((fileL 1 (leafAt zeroB 3 0)).take (0 : Int).toNat) (0 : Int).toNat w4 = w4
    rw [fileL_B0, qover1]
  rw [e, fileL_B0, qchgA, show usedTo zeroB 40 = 0 from used_zero 40] at h1
  omega
theorem q1 {D : Nat → Blk} {y : SetE} (h : Did 40 zeroB 1 x0 askA 64 D y) : ∃ m : Int, y = ⟨nA, [⟨nF, m, 4⟩], []⟩ ∧ fileL 1 (leafAt D 3 m) = padTo w4 ∧ usedTo D 40 ≤ 4 := by
  obtain ⟨C, made, hY, hD, hF⟩ := h
  have hc := hY.chg setOk_x0 bytes_w4 few_x0
  have hdn := hc.done setOk_x0 heldR_x0 (by unfold moreOf; rw [if_pos (.inl rfl)]; omega) hD hF
  have hu := done_used hc.grow.right hc.there hF
  rcases hY with ⟨_, _, _, root, size, hok, hT, p, ht⟩ | ⟨h, _⟩ | ⟨hp, _⟩
  · rcases ht with ⟨hp, _⟩ | ⟨_, rfl, rfl, _, _, _, rfl⟩
    · exact absurd hp (by simp [x0])
    · have e : overN 1 zeroB askA 0 0 = w4 := by
        show overL ((fileL 1 (leafAt zeroB 3 0)).take (0 : Int).toNat) (0 : Int).toNat w4 = w4
        rw [fileL_B0, qover1]
      rw [e] at hT
      have hfile := (hT.file hok (by decide) bytes_w4).2.1
      have hu2 := hT.used
      rw [fileL_B0, qchgA, show usedTo zeroB 40 = 0 from used_zero 40] at hu2
      have hyy : ({ x0 with files := x0.files.take p ++ (⟨askA.file, made, ((overN 1 zeroB askA 0 0).length : Int)⟩ : Ent) :: x0.files.drop p } : SetE) = ⟨nA, [⟨nF, made, 4⟩], []⟩ := by
        rw [e]
        simp [x0, askA, w4]
      refine ⟨made, hyy, ?_, by omega⟩
      rw [hyy] at hdn
      rw [hdn.2.1 ⟨nF, made, 4⟩ (by simp [entsX])]
      exact hfile
  · exact absurd h (by decide)
  · rcases hp with ⟨h, _⟩ | ⟨h, _⟩ | ⟨h, _⟩ | ⟨h, _⟩ | ⟨h, _⟩ <;> exact absurd h (by decide)
def xA (m : Int) : SetE := ⟨nA, [⟨nF, m, 4⟩], [⟨nS, [⟨nF, m, 4⟩]⟩]⟩
theorem q_no2 {B : Nat → Blk} {m : Int} : ¬ ChgNo 40 B 1 ⟨nA, [⟨nF, m, 4⟩], []⟩ ask2 := fun h => h.2.2.1 rfl ⟨isName_S, by simp, by simp⟩
theorem q2 {B D : Nat → Blk} {y : SetE} {m cc : Int} (h : Did 40 B 1 ⟨nA, [⟨nF, m, 4⟩], []⟩ ask2 cc D y) : y = xA m := by
  obtain ⟨_, q, _, _, rfl⟩ := plain_snap (h.plain (by decide) (by decide)).1 rfl
  simp [ask2, xA]
theorem q_snap (m : Int) : ∃ s ∈ (xA m).snaps, s.nm = nS.data.toList := ⟨⟨nS, [⟨nF, m, 4⟩]⟩, by simp [xA], rfl⟩
theorem q3 {n : Nat} {B C : Nat → Blk} {y : SetE} {m : Int} (h : ClF n B C (xA m) y) : y.files = [⟨nF, m, 4⟩] ∧ y.snaps = [] := by
  obtain ⟨h1, ⟨q, hq, h2⟩, _⟩ := h
  have hq0 : q = 0 := by simp [xA] at hq; omega
  subst hq0
  exact ⟨h2, h1⟩
theorem q3_used {B C : Nat → Blk} {y : SetE} {m : Int} (hx : SetOk 40 B 1 (xA m)) (h : ClF 40 B C (xA m) y) : usedTo C 40 ≤ usedTo B 40 := used_pos fun k hk h0 => by
  obtain ⟨hf, hs⟩ := q3 h
  rw [h.more k hk, moreB_refs] at h0
  by_cases hz : 0 < (B k).refs
  · exact hz
  · exfalso
    have hb := (hx.right.one k hk).bounds
    have hc : 0 < (rootsX y).count ((k : Int) + 1) := by omega
    have hm := List.count_pos_iff.1 hc
    unfold rootsX at hm
    rw [hf, hs] at hm
    simp [rootsE, rootsS] at hm
    have := (hx.ents ⟨nF, m, 4⟩ (by simp [entsX, xA])).rooted
    rcases this with f | ⟨⟨_, _, f⟩, _⟩
    · simp at f; omega
    · simp only at f
      rw [← hm, show ((k : Int) + 1 - 1).toNat = k by omega] at f
      omega
theorem named_b {root size m : Int} {nm : ByteArray} (h : Named ⟨nm, [⟨nF, m, 4⟩], []⟩ nF root size) : root = m ∧ size = 4 := by
  rcases h with ⟨f, hf, _, h1, h2⟩ | ⟨h, _⟩
  · simp at hf
    subst hf
    exact ⟨h1, h2⟩
  · exact absurd ⟨⟨nF, m, 4⟩, by simp, rfl⟩ h
theorem q_no4 {B : Nat → Blk} {m : Int} {nm : ByteArray} (hf : fileL 1 (leafAt B 3 m) = padTo w4) (hu : usedTo B 40 ≤ 4) : ¬ ChgNo 40 B 1 ⟨nm, [⟨nF, m, 4⟩], []⟩ askE := fun h => by
  obtain ⟨root, size, hN, h1⟩ := h.1 rfl isName_F ⟨by decide, by decide⟩ (.inr (by simp))
  obtain ⟨rfl, rfl⟩ := named_b hN
  have e : overN 1 B askE root 4 = w5 := by
    show overL ((fileL 1 (leafAt B 3 root)).take (4 : Int).toNat) (4 : Int).toNat [101] = w5
    rw [hf, qover2]
  rw [e, hf, qchgB] at h1
  omega
theorem q4 {B D : Nat → Blk} {y : SetE} {m cc : Int} {nm : ByteArray} (hx : SetOk 40 B 1 ⟨nm, [⟨nF, m, 4⟩], []⟩) (hh : HeldR 40 B (rootsX ⟨nm, [⟨nF, m, 4⟩], []⟩)) (hc : ∀ k, k < 40 → (B k).refs ≤ cc) (hcc : cc + 48 + 24 ≤ 1000000) (hf : fileL 1 (leafAt B 3 m) = padTo w4) (h : Did 40 B 1 ⟨nm, [⟨nF, m, 4⟩], []⟩ askE cc D y) :
    ∃ m3 : Int, y = ⟨nm, [⟨nF, m3, 5⟩], []⟩ ∧ fileL 1 (leafAt D 3 m3) = padTo w5 := by
  obtain ⟨C, made, hY, hD, hF⟩ := h
  have hcg := hY.chg hx bytes_e hc
  have hdn := hcg.done hx hh (by unfold moreOf; rw [if_pos (.inl rfl)]; exact hcc) hD hF
  rcases hY with ⟨_, _, ho, root, size, hok, hT, p, ht⟩ | ⟨h, _⟩ | ⟨hp, _⟩
  · have hby := (over_bytes (key := 1) (B := B) bytes_e ho root size).2
    rcases ht with ⟨hp, _, hr, hs, rfl⟩ | ⟨h, _⟩
    · have hp0 : p = 0 := by simp at hp; omega
      subst hp0
      simp at hr hs
      subst hr hs
      have e : overN 1 B askE root 4 = w5 := by
        show overL ((fileL 1 (leafAt B 3 root)).take (4 : Int).toNat) (4 : Int).toNat [101] = w5
        rw [hf, qover2]
      rw [e] at hT hby
      have hfile := (hT.file hok (by decide) hby).2.1
      refine ⟨made, by rw [e]; simp [w5], ?_⟩
      have := hdn.2.1 ⟨nF, made, ((overN 1 B askE root 4).length : Int)⟩ (by simp [entsX])
      exact this.trans hfile
    · exact absurd ⟨⟨nF, m, 4⟩, by simp, rfl⟩ h
  · exact absurd h (by decide)
  · rcases hp with ⟨h, _⟩ | ⟨h, _⟩ | ⟨h, _⟩ | ⟨h, _⟩ | ⟨h, _⟩ <;> exact absurd h (by decide)
theorem q_places : ((List.range 64).filter fun j => decide (chunk (padTo w4) j ≠ chunk (padTo w5) j)) = [1] := by kernel_rfl
/-- what Diff says there -/
theorem q5 {B : Nat → Blk} {m m4 : Int} (ha : FileOk 40 B 1 m 4) (hb : FileOk 40 B 1 m4 5) (hby : ∀ i, i < 40 → Bytes (B i).bytes) (h4 : fileL 1 (leafAt B 3 m) = padTo w4) (h5 : fileL 1 (leafAt B 3 m4) = padTo w5) : diffL 1 B [⟨nF, m, 4⟩] [⟨nF, m4, 5⟩] = [⟨2, nF, 5, []⟩, ⟨3, nF, 4, [101]⟩] := by
  have hd : diffTo B 3 m m4 64 = [1] := by
    rw [← q_places]
    unfold diffTo
    refine List.filter_congr (fun j hj => ?_)
    have := leaf_iff hby ha hb (List.mem_range.1 hj)
    rw [h4, h5] at this
    exact decide_eq_decide.2 (not_congr this)
  have hl1 : look [⟨nF, m, 4⟩] nF = some ⟨nF, m, 4⟩ := by simp [look]
  have hl2 : look [⟨nF, m4, 5⟩] nF = some ⟨nF, m4, 5⟩ := by simp [look]
  have hw : fileW 1 B ⟨nF, m4, 5⟩ = w5 := by
    unfold fileW
    simp only
    rw [h5]
    kernel_rfl
  unfold diffL goneL
  simp only [List.filter_cons, hl2, Option.isNone_some, List.filter_nil, List.flatMap_cons, List.flatMap_nil, List.append_nil]
  unfold turnedL sizedL runsOf
  simp only [hl1, rootO, sizeO, hd, hw]
  rfl
end Go.Proofs.YtnmcgmpmcliinaaGreat
