/-
  PoolX, SnapH, PoolQ, SetL, SetJ in one text. Nothing here is trusted.
-/
import Derived.Test.YtnmcgmpmcliinaaGreatPart29
import Derived.Test.YtnmcgmpmcliinaaGreatPart32
import Derived.Test.YtnmcgmpmcliinaaGreatPart28
import Derived.Test.YtnmcgmpmcliinaaGreatPart04
import Derived.Deep.RegionHeld3
import Derived.Test.YtnmcgmpmcliinaaGreatPart13
import Derived.Test.YtnmcgmpmcliinaaGreatPart20
import Derived.Test.YtnmcgmpmcliinaaGreatPart22
import Derived.Test.YtnmcgmpmcliinaaGreatPart12
import Derived.Laws.EntriesVeiled
set_option linter.unusedVariables false
namespace Go.Proofs.YtnmcgmpmcliinaaGreat
open Go.RowKit
def NoChg (n : Nat) (B : Nat → Blk) (t : TenE) (k : Nat) (x : SetE) (a : AskE) (e1 : Int) : Prop := ChgNo n B t.key x a ∨ (e1 = 8 ∧ ∃ D y q, Did n B t.key x a 2000 D y ∧ Uses D (rootsL (t.sets.set k y)) q ∧ t.quota < q)
def Other (a : AskE) : Prop := a.kind ≠ 1 ∧ a.kind ≠ 13 ∧ a.kind ≠ 11 ∧ a.kind ≠ 12 ∧ a.kind ≠ 2 ∧ a.kind ≠ 10
inductive DoCase (n : Nat) (B : Nat → Blk) (l : List TenE) (i : Nat) (t : TenE) (a : AskE) : (Nat → Blk) → List TenE → Int → Int → Prop
  | noadd (e1 : Int) : a.kind = 1 → e1 ≠ 0 → AddNo t.sets a.set e1 → DoCase n B l i t a B l e1 0
  | add (p : Nat) : a.kind = 1 → IsName a.set → t.sets.length < 3 → Found SetE.nm t.sets a.set.data.toList p false → DoCase n B l i t a B (l.set i ⟨t.key, t.quota, t.sets.take p ++ ⟨a.set, [], []⟩ :: t.sets.drop p⟩) 0 0
  | uses (N : Int) : a.kind = 13 → Uses B (rootsT t) N → DoCase n B l i t a B l 0 N
  | missing : a.kind ≠ 1 → a.kind ≠ 13 → (¬ ∃ x ∈ t.sets, x.nm = a.set.data.toList) → DoCase n B l i t a B l 5 0
  | look (k : Nat) (x : SetE) (e1 N : Int) : t.sets[k]? = some x → x.nm = a.set.data.toList → (a.kind = 11 ∨ a.kind = 12) → DoCase n B l i t a B l e1 N
  | destroy (k : Nat) (x : SetE) (D : Nat → Blk) : t.sets[k]? = some x → x.nm = a.set.data.toList → a.kind = 2 → Right n D → Fell n B D (rootsX x) → DoCase n B l i t a D (l.set i ⟨t.key, t.quota, t.sets.eraseIdx k⟩) 0 0
  | noclone (k : Nat) (x : SetE) (e1 : Int) : t.sets[k]? = some x → x.nm = a.set.data.toList → a.kind = 10 → e1 ≠ 0 → DoCase n B l i t a B l e1 0
  | clone (k : Nat) (x : SetE) (C : Nat → Blk) (y : SetE) (p : Nat) : t.sets[k]? = some x → x.nm = a.set.data.toList → a.kind = 10 → SetOk n C t.key y → ClF n B C x y → t.sets.length < 3 → Found SetE.nm t.sets y.nm p false → DoCase n B l i t a C (l.set i ⟨t.key, t.quota, t.sets.take p ++ y :: t.sets.drop p⟩) 0 0
  | nochange (k : Nat) (x : SetE) (e1 : Int) : t.sets[k]? = some x → x.nm = a.set.data.toList → Other a → e1 ≠ 0 → NoChg n B t k x a e1 → DoCase n B l i t a B l e1 0
  | change (k : Nat) (x : SetE) (D : Nat → Blk) (y : SetE) (q : Int) : t.sets[k]? = some x → x.nm = a.set.data.toList → Other a → Did n B t.key x a 2000 D y → Uses D (rootsL (t.sets.set k y)) q → q ≤ t.quota → DoCase n B l i t a D (l.set i ⟨t.key, t.quota, t.sets.set k y⟩) 0 0
structure DoIs (n : Nat) (B D : Nat → Blk) (l l' : List TenE) (i : Nat) (t : TenE) (a : AskE) (e1 : Int) : Prop where
  ok : PoolOk n D l'
  set : ∃ t', l' = l.set i t' ∧ t'.key = t.key ∧ t'.quota = t.quota
  oth : ∀ (j : Nat) (u : TenE), l[j]? = some u → j ≠ i → Stays n B D (rootsT u)
  still : (e1 ≠ 0 ∨ a.kind = 11 ∨ a.kind = 12 ∨ a.kind = 13) → D = B ∧ l' = l
theorem set_self {l : List TenE} {i : Nat} {t : TenE} (h : l[i]? = some t) : l = l.set i t := by
  obtain ⟨hi, rfl⟩ := List.getElem?_eq_some_iff.1 h
  rw [List.set_getElem_self]
theorem DoIs.same {n : Nat} {B : Nat → Blk} {l : List TenE} {i : Nat} {t : TenE} {a : AskE} {e1 : Int} (h : PoolOk n B l) (hi : l[i]? = some t) : DoIs n B B l l i t a e1 :=
  ⟨h, ⟨t, set_self hi, rfl, rfl⟩, fun j u hj _ => stays_refl h.right (h.tens u (List.mem_of_getElem? hj)).rootsOk, fun _ => ⟨rfl, rfl⟩⟩
theorem DoIs.of_step {n : Nat} {B D : Nat → Blk} {l : List TenE} {i : Nat} {t t' : TenE} {a : AskE} {e1 : Int} (h : Step n B D l i t') (hk : t'.key = t.key) (hq : t'.quota = t.quota) (hno : e1 = 0 ∧ a.kind ≠ 11 ∧ a.kind ≠ 12 ∧ a.kind ≠ 13) : DoIs n B D l (l.set i t') i t a e1 :=
  ⟨h.ok, ⟨t', rfl, hk, hq⟩, h.oth, fun f => by rcases f with f | f | f | f <;> simp_all⟩
theorem more_le (a : AskE) : (2000 : Int) + moreOf a + 24 ≤ 1000000 := by unfold moreOf; split <;> omega
theorem DoCase.is {n : Nat} {B D : Nat → Blk} {l l' : List TenE} {i : Nat} {t : TenE} {a : AskE} {e1 N : Int} (h : PoolOk n B l) (hi : l[i]? = some t) (hb : Bytes a.bytes) (hc : DoCase n B l i t a D l' e1 N) : DoIs n B D l l' i t a e1 := by
  cases hc with
  | noadd => exact DoIs.same h hi
  | add p h1 h2 h3 h4 => exact DoIs.of_step (h.add hi h3 h2 h4) rfl rfl ⟨rfl, by omega, by omega, by omega⟩
  | uses => exact DoIs.same h hi
  | missing => exact DoIs.same h hi
  | look => exact DoIs.same h hi
  | destroy k x D h1 h2 h3 h4 h5 => exact DoIs.of_step (h.destroy hi h1 h4 h5) rfl rfl ⟨rfl, by omega, by omega, by omega⟩
  | noclone => exact DoIs.same h hi
  | clone k x C y p h1 h2 h3 h4 h5 h6 h7 => exact DoIs.of_step (h.clone hi h1 h6 h7 h4 h5) rfl rfl ⟨rfl, by omega, by omega, by omega⟩
  | nochange => exact DoIs.same h hi
  | change k x D y q h1 h2 h3 h4 h5 h6 => exact DoIs.of_step (h.change hi h1 hb h.refs (more_le a) h4 h5 h6) rfl rfl ⟨rfl, h3.2.2.1, h3.2.2.2.1, h3.2.1⟩
end Go.Proofs.YtnmcgmpmcliinaaGreat

namespace Go.Proofs.YtnmcgmpmcliinaaGreat
open Go.RowKit
def RetDw (base : Nat) (e : Ending) (w : World) (n : Nat) (B : Nat → Blk) (R : List Int) : Prop := ∃ (g : Nat) (D : Nat → Blk), e = .returned (.tuple #[.agg #[.slice (some ⟨g, 0, none⟩) n n], .int .i64 0]) ∧ Right n D ∧ Fell n B D R ∧ base ≤ g ∧ Own w g n D
set_option maxHeartbeats 4000000 in
set_option maxRecDepth 100000 in
theorem destroy_own (Q : Nat → Prop) (sa : Option Addr) (n sc : Nat) (B : Nat → Blk) (key : Int) (v : SetV) (x : SetE) (w : World) (hs : StoreAt w sa n B) (hX : SetAt Q w v x) (hx : SetOk n B key x) (hh : HeldR n B (rootsX x)) :
    Calls Tryz.prog 100 #[.agg #[.slice sa n sc], .int .i64 key, v.val] w fun e w' => RetDw w.heap.size e w' n B (rootsX x) ∧ Below w.heap.size w w' := by
  unfold SetV.val
  have b0 : Below w.heap.size w (((w.alloc (.cells #[.slice sa n sc] 24)).alloc (.cells #[.string v.name, .slice v.fa v.fn v.fc, .slice v.sa v.sn v.sc] 47)).alloc (.cells #[.slice none 0 0] 24)) := bAl (bAl (bAl (Below.refl _ w) _) _) _
  have k0 : CellsAt (((w.alloc (.cells #[.slice sa n sc] 24)).alloc (.cells #[.string v.name, .slice v.fa v.fn v.fc, .slice v.sa v.sn v.sc] 47)).alloc (.cells #[.slice none 0 0] 24)) w.heap.size #[.slice sa n sc] 24 := ((cellsAt_alloc w _ _).below (below_alloc _ _)).below (below_alloc _ _)
  have k1 : CellsAt (((w.alloc (.cells #[.slice sa n sc] 24)).alloc (.cells #[.string v.name, .slice v.fa v.fn v.fc, .slice v.sa v.sn v.sc] 47)).alloc (.cells #[.slice none 0 0] 24)) (w.heap.size + 1) #[.string v.name, .slice v.fa v.fn v.fc, .slice v.sa v.sn v.sc] 47 := (cellsAt_alloc2 w (.cells #[.slice sa n sc] 24) _ _).below (below_alloc _ _)
  have k2 := cellsAt_alloc ((w.alloc (.cells #[.slice sa n sc] 24)).alloc (.cells #[.string v.name, .slice v.fa v.fn v.fc, .slice v.sa v.sn v.sc] 47)) #[.slice none 0 0] 24
  simp only [sz_alloc] at k2
  have hsz : w.heap.size + 3 ≤ (((w.alloc (.cells #[.slice sa n sc] 24)).alloc (.cells #[.string v.name, .slice v.fa v.fn v.fc, .slice v.sa v.sn v.sc] 47)).alloc (.cells #[.slice none 0 0] 24)).heap.size := by simp
  have hsh := hid hx.shape
  have hn4 := hx.right.small
  have hl4 : Hid (∀ i, i < n → (B i).kids.length ≤ 4 ∧ (B i).bytes.length ≤ 4) := hid (fun i hi => ⟨(hx.right.one i hi).few, (hx.right.one i hi).few2⟩)
  have hbd : Hid (∀ i, i < n → (B i).refs + (([] : List Int).length : Int) ≤ 1000000) := hid (fun i hi => by have := (hx.right.one i hi).bounds; simp; omega)
  have hln : Hid ((rootsX x).length ≤ 1000) := hid (by have := length_rootsX hx.shape; omega)
  replace hs := hid hs
  replace hX := hid hX
  replace hx := hid hx
  replace hh := hid hh
  replace k0 := hid k0
  replace k1 := hid k1
  replace k2 := hid k2
  replace b0 := hid b0
  go_enter Tryz.func100, Tryz.ntmps100
  go_wp2_with fail
  generalize ((w.alloc (.cells #[.slice sa n sc] 24)).alloc (.cells #[.string v.name, .slice v.fa v.fn v.fc, .slice v.sa v.sn v.sc] 47)).alloc (.cells #[.slice none 0 0] 24) = w0 at *
  refine (checkHeld_any Q sa n sc B key v x w0 (hs.out.below b0.out) (hX.out.below b0.out)).mono ?_
  rintro e w1 ⟨⟨e', rfl, he⟩, b1⟩
  obtain rfl : e' = 0 := he.2 ⟨hx.out, hh.out⟩
  clear he
  replace k0 := hid (k0.out.below b1)
  replace k1 := hid (k1.out.below b1)
  replace k2 := hid (k2.out.below b1)
  replace b0 := hid (Below.tr b0.out b1)
  have hs1 := b1.size
  clear b1
  go_wp2_with fail
  refine (copy_any ⟨w.heap.size, 0, none⟩ sa n sc B w1 ⟨k0.out.lt, by have := k0.out.cell 0; simpa using this, hs.out.below b0.out⟩ hn4 hl4.out).mono ?_
  rintro e w2 ⟨b2, g, rfl, hg, hO⟩
  have bA := below_alloc w2 (.cells #[.slice (some ⟨g, 0, none⟩) n n] 24)
  have k9 := cellsAt_alloc w2 #[.slice (some ⟨g, 0, none⟩) n n] 24
  have hgl := hO.lt
  replace hO := hid (hO.below bA)
  replace k1 := hid ((k1.out.below b2).below bA)
  replace k2 := hid ((k2.out.below b2).below bA)
  have hs2 := b2.size
  replace b0 := hid (Below.tr (Below.tr b0.out b2) bA)
  have x0 := k1.out.cell 0
  have x1 := k1.out.cell 1
  have x2 := k1.out.cell 2
  simp only [List.getElem?_toArray, List.getElem?_cons_zero, List.getElem?_cons_succ] at x0 x1 x2
  replace k9 := hid k9
  have hsA : w2.heap.size < (w2.alloc (.cells #[.slice (some ⟨g, 0, none⟩) n n] 24)).heap.size := by simp
  clear b2 bA
  go_upto_region 5 with fail
  generalize w2.alloc (.cells #[.slice (some ⟨g, 0, none⟩) n n] 24) = w3 at *
  go_wp2_with fail
  refine (roots_lo Q v x v.name w3 (hX.out.below b0.out) hsh.out rfl).mono ?_
  rintro e w4 ⟨⟨ra, rc, lo, rfl, hlo, hr, hw, _⟩, b4⟩
  have k9' := k9.out.below b4
  have hP : Hid (OwnPtr w4 ⟨w2.heap.size, 0, none⟩ g n B) := hid ⟨k9'.lt, by show w2.heap.size ≠ g; omega, by have := k9'.cell 0; simpa using this, hO.out.below b4⟩
  have hN := hid ((nums_row hr hw).weaken (R := fun b => b ≠ g) (fun b _ q => by have := q.1; omega))
  replace k2 := hid (k2.out.below b4)
  replace b0 := hid (Below.tr b0.out b4)
  clear x0 x1 x2 hr hw k9 k9' hO
  go_wp2_with fail
  refine (shift_any ⟨w2.heap.size, 0, none⟩ g n B none 0 0 [] ra (rootsX x).length rc (rootsX x) w4 hP.out ⟨rfl, fun x hx => by simp at hx, fun h => absurd h (by omega)⟩ hN.out hln.out (by omega) hx.out.right (fun r hr => by simp at hr) hbd.out (fun k hk => by have := hh.out k hk; simp; exact this) hx.out.rootBd).mono ?_
  rintro e w5 ⟨rfl, ho, D, hOP, hRD, hFD⟩
  rw [moreB_nil] at hFD
  have l2 := k2.out.lt
  have hk2 : CellsAt w5 (w.heap.size + 1 + 1) #[.slice none 0 0] 24 := (Only.of_out (M := fun b => b = g) ho rfl).cells k2.out (by omega)
  have c9 := hOP.cell
  have f0 := hk2.cell 0
  have f1 := hk2.frozen 0
  simp at f0
  have hSt := hid ((own_only hOP.own (Only.of_kept (M := fun b => b = w.heap.size + 1 + 1) (kept_putS w5 (w.heap.size + 1 + 1) (.slice (some ⟨g, 0, none⟩) n n)) rfl) (fun b _ m => by omega)))
  have bF := hid ((b0.out.trans (ho.below (B := w.heap.size) (by omega) b0.out.size)).trans ((kept_putS w5 (w.heap.size + 1 + 1) (.slice (some ⟨g, 0, none⟩) n n)).below (B := w.heap.size) (by omega)))
  replace hFD := hid hFD
  replace hRD := hid hRD
  clear hOP ho hk2
  go_wp2_with fail
  refine bodyPost_ret (v := .tuple #[.agg #[.slice (some ⟨g, 0, none⟩) n n], .int .i64 0]) (by rw [results_cell_tmp rfl]; go_simp) rfl ?_
  exact ⟨⟨g, D, rfl, hRD.out, hFD.out, by omega, hSt.out⟩, bF.out⟩
end Go.Proofs.YtnmcgmpmcliinaaGreat

namespace Go.Proofs.YtnmcgmpmcliinaaGreat
open Go.RowKit
theorem setCell_comm (w : World) {a b : Addr} (h : a.block ≠ b.block) (u v : Value) : (w.setCell a u).setCell b v = (w.setCell b v).setCell a u := by
  unfold World.setCell
  simp only [World.mk.injEq, and_true]
  apply Array.ext
  · simp
  · intro i h1 h2
    simp only [Array.getElem_modify]
    by_cases e1 : a.block = i
    · have : ¬ b.block = i := fun e2 => h (e1.trans e2.symm)
      simp [e1, this]
    · simp [e1]
theorem PSt.swap2 {H : Nat} {X : Nat → Prop} {w : World} {ob g n g' : Nat} {B C : Nat → Blk} {ta : Option Addr} {tn tc : Nat} {L : List TenM} (h : PSt H X w ob g n B ta tn tc L) (hO : Own w g' n C) (hrows : ∀ b, RowsP (.slice ta tn tc) L tn b → b < g') (hxs : ∀ b, X b → b < g') : PSt H X (w.setCell ⟨ob, 0, none⟩ (.slice (some ⟨g', 0, none⟩) n n)) ob g' n C ta tn tc L := by
  have kk : Kept ob w (w.setCell ⟨ob, 0, none⟩ (.slice (some ⟨g', 0, none⟩) n n)) := Kept.setCell (g := ob) (Kept.refl _ _) (p := ⟨ob, 0, none⟩) rfl _
  have hob := hxs ob h.hx
  have hO' := hO.kept hob kk
  have hlen := h.mine.len
  have k := h.box.set 0 (.slice (some ⟨g', 0, none⟩) n n)
  simp only [List.setIfInBounds_toArray, List.set_cons_zero] at k
  refine ⟨k, hO'.lt, hO'.blocks.weaken (fun b _ q => ⟨q, fun f => ?_, fun x => by have := hxs b x; omega⟩), hO'.free, ⟨fun f => ?_, fun x => by have := hxs _ x; omega⟩, h.mine.only (Only.of_kept (M := fun b => b = ob) kk rfl) (fun b e => .inr ⟨e ▸ h.hx, fun f => absurd f (by omega)⟩), h.hob, h.hx⟩
  · have := hrows b f; omega
  · have := hrows _ f; omega
def PM (ob tb tn tc : Nat) (L : List TenM) (b : Nat) : Prop := b = ob ∨ RowsP (.slice (some ⟨tb, 0, none⟩) tn tc) L tn b
theorem setDel_drew (H : Nat) (X : Nat → Prop) (ob g n : Nat) (B : Nat → Blk) (tb tn tc : Nat) (L : List TenM) (i k g' a7 : Nat) (D : Nat → Blk) (m : TenM) (w wc : World) (h : PSt H X w ob g n B (some ⟨tb, 0, none⟩) tn tc L) (hm : L[i]? = some m) (hk : k < m.sn) (bc : Below w.heap.size w wc) (hO : Own wc g' n D) (hg : w.heap.size ≤ g') (ka : CellsAt wc a7 #[.slice (some ⟨g', 0, none⟩) n n] 24) (ha : w.heap.size ≤ a7) :
    Calls Tryz.prog 101 #[.slice m.sa m.sn m.sc, .int .i64 k, .int .i64 ((k : Int) + 1)] wc.drew fun e w' =>
      e = .returned (.slice m.sa (m.sn - 1) m.sc) ∧ w'.cell? ⟨a7, 0, none⟩ = some (.slice (some ⟨g', 0, none⟩) n n) ∧ w'.cell? ⟨ob, 0, none⟩ = some (.slice (some ⟨g, 0, none⟩) n n) ∧ w'.frozen? ⟨ob, 0, none⟩ = false ∧ w'.cell? ⟨tb, i * 3 + 2, none⟩ = some (.slice m.sa m.sn m.sc) ∧ w'.frozen? ⟨tb, i * 3 + 2, none⟩ = false ∧ ob ≠ tb ∧ ob < w'.heap.size ∧ tb < w'.heap.size ∧
        PSt H X ((w'.setCell ⟨ob, 0, none⟩ (.slice (some ⟨g', 0, none⟩) n n)).setCell ⟨tb, i * 3 + 2, none⟩ (.slice m.sa (m.sn - 1) m.sc)) ob g' n D (some ⟨tb, 0, none⟩) tn tc (L.set i { m with sn := m.sn - 1, ms := m.ms.eraseIdx k }) ∧ Below H w ((w'.setCell ⟨ob, 0, none⟩ (.slice (some ⟨g', 0, none⟩) n n)).setCell ⟨tb, i * 3 + 2, none⟩ (.slice m.sa (m.sn - 1) m.sc)) ∧ Only (PM ob tb tn tc L) w ((w'.setCell ⟨ob, 0, none⟩ (.slice (some ⟨g', 0, none⟩) n n)).setCell ⟨tb, i * 3 + 2, none⟩ (.slice m.sa (m.sn - 1) m.sc)) := by
  obtain ⟨hi, hmi⟩ := List.getElem?_eq_some_iff.1 hm
  have hl := h.mine.len
  have hin : i < tn := by omega
  have bd : Below w.heap.size w wc.drew := bc.trans (below_drew _ _)
  have hd := h.below bd
  have hown := hd.mine.own i m hm hin
  have hlt := (h.mine.own i m hm hin).lt
  have htb := h.mine.row.lt tb rfl
  have htop := h.mine.top i m hm hin
  have hnt : ¬ (Value.slice m.sa m.sn m.sc).ownBlock = some tb := fun f => htop tb f rfl
  have hno : ¬ (Value.slice m.sa m.sn m.sc).ownBlock = some ob := fun f => h.mine.rx ob (.inr ⟨i, m, hin, hm, f⟩) h.hx
  have hbt : ob ≠ tb := fun e => h.mine.rx tb (.inl rfl) (e ▸ h.hx)
  have hobl := h.box.lt
  refine (deleteT_own m.sa m.sn m.sc k H (setCells m.ms) wc.drew hk hown (setCells_one _)).mono ?_
  rintro e w' ⟨rfl, ho, on⟩
  rw [setCells_erase] at ho
  have ht := hd.ten hm
  have hna : ¬ (Value.slice m.sa m.sn m.sc).ownBlock = some a7 := fun f => by have := (hlt _ f).2; omega
  have hO' : Own w' g' n D := by
    refine ⟨Nat.lt_of_lt_of_le (hO.below (below_drew _ _)).lt on.size, on.blocks (hO.below (below_drew _ _)).blocks (fun f => ?_) (hO.below (below_drew _ _)).lt (fun b q f => ?_), fun j hj => ?_⟩
    · have := (hlt _ f).2; omega
    · have := (hlt _ f).2; omega
    · rw [World.frozen?_of_block (w := wc.drew) (on.block g' (hO.below (below_drew _ _)).lt (fun f => by have := (hlt _ f).2; omega))]
      exact (hO.below (below_drew _ _)).free j hj
  have hput := hd.put (n' := m.sn - 1) (ms' := m.ms.eraseIdx k) hm on ho (fun b hb => .inl ((own_len _ _ _ _ _).trans hb)) (fun s hs => .inl (List.mem_of_mem_eraseIdx hs))
  have kk : Kept tb w' (w'.setCell ⟨tb, i * 3 + 2, none⟩ (.slice m.sa (m.sn - 1) m.sc)) := Kept.setCell (g := tb) (Kept.refl _ _) (p := ⟨tb, i * 3 + 2, none⟩) rfl _
  have hfin := hput.swap2 (hO'.kept (by omega) kk) (fun b f => by
    rcases f with f | ⟨q, u, hq, hu, f⟩
    · have := (h.mine.row.lt b f).2; omega
    · by_cases e : q = i
      · subst e
        rw [List.getElem?_set_self hi] at hu
        cases hu
        have := (hlt b ((own_len _ _ _ _ _).trans f)).2; omega
      · rw [List.getElem?_set_ne (fun f => e f.symm)] at hu
        have := ((h.mine.own q u hu hq).lt b f).2; omega) (fun b x => by have := h.mine.xlt b x; omega)
  have hcm : (w'.setCell ⟨ob, 0, none⟩ (.slice (some ⟨g', 0, none⟩) n n)).setCell ⟨tb, i * 3 + 2, none⟩ (.slice m.sa (m.sn - 1) m.sc) = (w'.setCell ⟨tb, i * 3 + 2, none⟩ (.slice m.sa (m.sn - 1) m.sc)).setCell ⟨ob, 0, none⟩ (.slice (some ⟨g', 0, none⟩) n n) := setCell_comm w' (a := ⟨ob, 0, none⟩) (b := ⟨tb, i * 3 + 2, none⟩) hbt _ _
  rw [hcm]
  have k2 : Kept ob (w'.setCell ⟨tb, i * 3 + 2, none⟩ (.slice m.sa (m.sn - 1) m.sc)) ((w'.setCell ⟨tb, i * 3 + 2, none⟩ (.slice m.sa (m.sn - 1) m.sc)).setCell ⟨ob, 0, none⟩ (.slice (some ⟨g', 0, none⟩) n n)) := Kept.setCell (g := ob) (Kept.refl _ _) (p := ⟨ob, 0, none⟩) rfl _
  have hsz := h.mine.sz
  have hob' := h.hob
  have hb1 := hd.box.cell 0
  simp at hb1
  have ka' := (ka.below (below_drew _ _)).cell 0
  simp at ka'
  have hbd := bd.size
  refine ⟨rfl, (on.cell (p := ⟨a7, 0, none⟩) (show a7 < wc.drew.heap.size from (ka.below (below_drew _ _)).lt) hna).trans ka', (on.cell (p := ⟨ob, 0, none⟩) (show ob < wc.drew.heap.size by omega) hno).trans hb1, ?_, (on.cell (p := ⟨tb, i * 3 + 2, none⟩) ht.2.2.2.2 hnt).trans ht.2.2.1, ?_, hbt, by have := on.size; omega, by have := on.size; omega, hfin, (bd.mono hsz).trans ((on.below (fun b hb => (hlt b hb).1) (by omega)).trans ((kk.below htb.1).trans (k2.below hob'))), (((Only.of_below bd).trans (on.mono (fun b _ q => .inr (.inr ⟨i, m, hin, hm, q⟩)))).trans (Only.of_kept kk (.inr (.inl rfl)))).trans (Only.of_kept k2 (.inl rfl))⟩
  · rw [World.frozen?_of_block (w := wc.drew) (on.block ob (by omega) hno)]
    exact hd.box.frozen 0
  · rw [World.frozen?_of_block (w := wc.drew) (on.block tb ht.2.2.2.2 hnt)]
    exact ht.2.2.2.1
def GotDs (W wc : World) (n : Nat) (B : Nat → Blk) (R : List Int) (v7 v8 : Value) : Prop := ∃ (a7 g : Nat) (D : Nat → Blk), v7 = .pointer (some ⟨a7, 0, none⟩) ∧ v8 = .int .i64 0 ∧ CellsAt wc a7 #[.slice (some ⟨g, 0, none⟩) n n] 24 ∧ Below W.heap.size W wc ∧ W.heap.size ≤ a7 ∧ Right n D ∧ Fell n B D R ∧ W.heap.size ≤ g ∧ Own wc g n D
theorem gotDs_ca {W w6 : World} {n : Nat} {B D : Nat → Blk} {R : List Int} {g : Nat} (bb : Below W.heap.size W w6) (hR : Right n D) (hF : Fell n B D R) (hg : W.heap.size ≤ g) (hO : Own w6 g n D) : GotDs W (w6.alloc (.cells #[.slice (some ⟨g, 0, none⟩) n n] 24)) n B R (.pointer (some ⟨w6.heap.size, 0, none⟩)) (.int .i64 0) :=
  ⟨_, g, D, rfl, rfl, cellsAt_alloc w6 _ _, Below.tr bb (below_alloc _ _), bb.size, hR, hF, hg, hO.below (below_alloc _ _)⟩
theorem gotDs_ac {W w6 : World} {n : Nat} {B D : Nat → Blk} {R : List Int} {g a : Nat} (ka : CellsAt w6 a #[.slice none 0 0] 24) (ha : W.heap.size ≤ a) (hag : a < g) (bb : Below W.heap.size W w6) (hR : Right n D) (hF : Fell n B D R) (hO : Own w6 g n D) : GotDs W (w6.setCell ⟨a, 0, none⟩ (.slice (some ⟨g, 0, none⟩) n n)) n B R (.pointer (some ⟨a, 0, none⟩)) (.int .i64 0) := by
  have kk : Kept a w6 (w6.setCell ⟨a, 0, none⟩ (.slice (some ⟨g, 0, none⟩) n n)) := Kept.setCell (g := a) (Kept.refl _ _) (p := ⟨a, 0, none⟩) rfl _
  have k := ka.set 0 (.slice (some ⟨g, 0, none⟩) n n)
  simp only [List.setIfInBounds_toArray, List.set_cons_zero] at k
  exact ⟨a, g, D, rfl, rfl, k, bb.trans (kk.below ha), ha, hR, hF, by omega, hO.kept hag kk⟩
def RetPd (H : Nat) (X : Nat → Prop) (w : World) (ob n : Nat) (B : Nat → Blk) (tb tn tc : Nat) (L : List TenM) (i k : Nat) (m : TenM) (s : SetM) (e : Ending) (w' : World) : Prop :=
  e = .returned (.int .i64 0) ∧ Below H w w' ∧ Only (PM ob tb tn tc L) w w' ∧ ∃ g' D, Right n D ∧ Fell n B D (rootsX s.x) ∧ PSt H X w' ob g' n D (some ⟨tb, 0, none⟩) tn tc (L.set i { m with sn := m.sn - 1, ms := m.ms.eraseIdx k })
set_option maxHeartbeats 4000000 in
set_option maxRecDepth 100000 in
theorem poolDestroy_any (H : Nat) (X : Nat → Prop) (ob g n : Nat) (B : Nat → Blk) (tb tn tc : Nat) (L : List TenM) (i k : Nat) (m : TenM) (s : SetM) (w : World) (h : PSt H X w ob g n B (some ⟨tb, 0, none⟩) tn tc L) (hm : L[i]? = some m) (hs : m.ms[k]? = some s) (h3 : m.sn ≤ 3) (hx : SetOk n B m.key s.x) (hh : HeldR n B (rootsX s.x)) :
    Calls Tryz.prog 61 #[.pointer (some ⟨ob, 0, none⟩), .pointer (some ⟨tb, i * 3, none⟩), .int .i64 k] w fun e w' => RetPd H X w ob n B tb tn tc L i k m s e w' := by
  obtain ⟨hk, hsk⟩ := List.getElem?_eq_some_iff.1 hs
  have hml : m.ms.length = m.sn := by have := (h.sets hm).1; simpa using this
  have hks : k < m.sn := by omega
  obtain ⟨hi, hmi⟩ := List.getElem?_eq_some_iff.1 hm
  have hl := h.mine.len
  have hown := h.mine.own i m hm (by omega)
  obtain ⟨rb, hrb⟩ : ∃ rb, m.sa = some ⟨rb, 0, none⟩ := by
    rcases hown.2 with ⟨h0, h1⟩ | ⟨q, cap, cur, h0, _⟩
    · omega
    · simp only [Value.slice.injEq] at h0; exact ⟨q, h0.1⟩
  have hse : Hid (∀ w', Below w.heap.size w w' → SetAt (fun _ => True) w' s.v s.x) := hid (fun w' b => ((h.mine.lists m (List.mem_of_getElem? hm) s (List.mem_of_getElem? hs)).weaken (fun _ _ _ => trivial)).below b)
  have hst : Hid (∀ w', Below w.heap.size w w' → StoreAt w' (some ⟨g, 0, none⟩) n B) := hid (fun w' b => h.own.store.below b)
  have ht := h.ten hm
  obtain ⟨t0, t1, t2, tf, lt⟩ := ht
  have hrow := hown
  rw [hrb] at hrow t2
  have lr := (hrow.lt rb rfl).2
  have r0 : w.cell? ⟨rb, k * 3, none⟩ = some (.string s.v.name) := (hrow.cellAt (k * 3) (by omega)).trans ((flat_get SetM.cells_len m.ms k 0 hk (by omega)).trans (by rw [hsk]; rfl))
  have r1 : w.cell? ⟨rb, k * 3 + 1, none⟩ = some (.slice s.v.fa s.v.fn s.v.fc) := (hrow.cellAt (k * 3 + 1) (by omega)).trans ((flat_get SetM.cells_len m.ms k 1 hk (by omega)).trans (by rw [hsk]; rfl))
  have r2 : w.cell? ⟨rb, k * 3 + 2, none⟩ = some (.slice s.v.sa s.v.sn s.v.sc) := (hrow.cellAt (k * 3 + 2) (by omega)).trans ((flat_get SetM.cells_len m.ms k 2 hk (by omega)).trans (by rw [hsk]; rfl))
  have o0 := h.box.cell 0
  simp at o0
  have lo := h.box.lt
  have HB1 : Hid (Below w.heap.size w w.drew) := hid (below_drew _ _)
  have HB2 : Hid (Below w.heap.size w (w.alloc obj0S).drew) := hid ((below_alloc w obj0S).trans (below_drew _ _))
  have HZ2 : Hid ((w.alloc obj0S).drew.heap.size = w.heap.size + 1) := hid (by simp [World.drew])
  have ka2 := hid ((cellsAt_alloc w #[.slice none 0 0] 24).below (below_drew _ _))
  have nlo := Nat.ne_of_lt lo
  have nlt := Nat.ne_of_lt lt
  have nlr := Nat.ne_of_lt lr
  have nlo' := nlo.symm
  have nlt' := nlt.symm
  have nlr' := nlr.symm
  have hk0 : (0 : Int) ≤ (k : Int) := by omega
  have hksI : (k : Int) < (m.sn : Int) := by omega
  replace h := hid h
  replace hm := hid hm
  replace hx := hid hx
  replace hh := hid hh
  clear hrow hown hsk hs t1 tf hmi
  replace hrb := hid hrb
  go_enter Tryz.func61, Tryz.ntmps61
  go_upto_region 1 with fail
  go_cut [7, 8] from 27 (fun v7 v8 wc => GotDs w wc n B (rootsX s.x) v7 v8)
  case first =>
    go_region_held3 (fun w' => w'.cell? ⟨ob, 0, none⟩ = some (.slice (some ⟨g, 0, none⟩) n n) ∧ w'.cell? ⟨tb, i * 3, none⟩ = some (.int .i64 m.key) ∧ w'.cell? ⟨tb, i * 3 + 2, none⟩ = some (.slice (some ⟨rb, 0, none⟩) m.sn m.sc) ∧ w'.cell? ⟨rb, k * 3, none⟩ = some (.string s.v.name) ∧ w'.cell? ⟨rb, k * 3 + 1, none⟩ = some (.slice s.v.fa s.v.fn s.v.fc) ∧ w'.cell? ⟨rb, k * 3 + 2, none⟩ = some (.slice s.v.sa s.v.sn s.v.sc)) (first | go_keep | assumption) (first | (go_at_call 100; refine Calls.mono (destroy_own (fun _ => True) (some ⟨g, 0, none⟩) n n B m.key s.v s.x _ ?_ ?_ hx.out hh.out) ?_; (first | with_reducible exact hst.out _ HB1.out | with_reducible exact hst.out _ HB2.out); (first | with_reducible exact hse.out _ HB1.out | with_reducible exact hse.out _ HB2.out); rintro e w6 ⟨⟨g', D, rfl, hRD, hFD, hg6, hO6⟩, b6⟩; (first | (with_reducible have bb := hid (Below.tr HB1.out b6)) | (with_reducible have bb := hid (Below.tr HB2.out b6); have ka := hid (ka2.out.below b6); rw [HZ2.out] at hg6; have cka := ka.out.cell 0; have fka := ka.out.frozen 0; simp at cka)); have s0 := (bb.out.cell (p := ⟨ob, 0, none⟩) lo).trans o0; have s1 := (bb.out.cell (p := ⟨tb, i * 3, none⟩) lt).trans t0; have s2 := (bb.out.cell (p := ⟨tb, i * 3 + 2, none⟩) lt).trans t2; have s3 := (bb.out.cell (p := ⟨rb, k * 3, none⟩) lr).trans r0; have s4 := (bb.out.cell (p := ⟨rb, k * 3 + 1, none⟩) lr).trans r1; have s5 := (bb.out.cell (p := ⟨rb, k * 3 + 2, none⟩) lr).trans r2; have hs6 := bb.out.size; have m1 : ob ≠ w6.heap.size := (by omega); have m2 : tb ≠ w6.heap.size := (by omega); have m3 : rb ≠ w6.heap.size := (by omega); have m1' := m1.symm; have m2' := m2.symm; have m3' := m3.symm; replace hO6 := hid hO6; replace hRD := hid hRD; replace hFD := hid hFD; replace b6 := hid b6))
    all_goals (go_wp2_with fail; go_meet; first
      | exact gotDs_ca bb.out hRD.out hFD.out (Nat.le_trans (by first | exact Nat.le_refl _ | exact Nat.le_succ _) hg6) hO6.out
      | exact gotDs_ac (a := w.heap.size) ka.out (Nat.le_refl _) hg6 bb.out hRD.out hFD.out hO6.out)
  case rest =>
    obtain ⟨a7, g', D, rfl, rfl, k7, bC, h7, hRD, hFD, hg', hO⟩ := hcut
    clear HB1 HB2 HZ2 ka2 hst hse nlo nlt nlr nlo' nlt' nlr' r0 r1 r2 t0 o0 hx hh
    have y2 := (bC.cell (p := ⟨tb, i * 3 + 2, none⟩) lt).trans t2
    have c7 := k7.cell 0
    simp at c7
    rw [← hrb.out] at y2
    clear t2
    replace k7 := hid k7
    replace hO := hid hO
    replace hRD := hid hRD
    replace hFD := hid hFD
    replace bC := hid bC
    have hwr : IntKind.i64.wrap ((k : Int) + 1) = (k : Int) + 1 := by rcases (show k = 0 ∨ k = 1 ∨ k = 2 by omega) with rfl | rfl | rfl <;> rfl
    replace hwr := hid hwr
    go_upto_region 4 with fail
    go_region_with (go_at_call 101; rw [hwr.out]; with_reducible refine Calls.mono (setDel_drew H X ob g n B tb tn tc L i k g' a7 D m w wc h.out hm.out hks bC.out hO.out hg' k7.out h7) ?_; rintro e w9 ⟨rfl, x1, x2, x3, x4, x5, x6, x7, x8, hfin⟩; have x6' := x6.symm; replace hfin := hid hfin)
    all_goals (
      go_wp2_with fail
      go_ret
      exact ⟨rfl, hfin.out.2.1, hfin.out.2.2, g', D, hRD.out, hFD.out, hfin.out.1⟩)
end Go.Proofs.YtnmcgmpmcliinaaGreat

namespace Go.Proofs.YtnmcgmpmcliinaaGreat
open Go.RowKit
def RetAn (base : Nat) (e : Ending) (w : World) (N : Int) (l : List Int) : Prop := ∃ (y : Option Addr) (ln lc : Nat), e = .returned (.agg #[.int .i64 0, .int .i64 N, .slice none 0 0, .slice y ln lc]) ∧ ln ≤ lc ∧ NumsAt (fun b => base ≤ b) .u8 w y ln l
structure LB (W wr : World) (sa : Option Addr) (n sc : Nat) (v : SetV) (a : AskE) (ba : Option Addr) (bn bc : Nat) : Prop where
  bel : Below W.heap.size W wr
  sz : W.heap.size + 4 ≤ wr.heap.size
  bS : CellsAt wr W.heap.size #[.slice sa n sc] 24
  bX : CellsAt wr (W.heap.size + 1) #[.string v.name, .slice v.fa v.fn v.fc, .slice v.sa v.sn v.sc] 47
  bA : CellsAt wr (W.heap.size + 1 + 1) #[.int .i64 a.kind, .string a.set, .string a.file, .string a.to, .int .i64 a.pos, .int .i64 a.num, .slice ba bn bc] 30
  r8 : CellsAt wr (W.heap.size + 1 + 1 + 1) #[.int .i64 0, .int .i64 0, .slice none 0 0, .slice none 0 0] 34
theorem LB.below {W wr w' : World} {sa : Option Addr} {n sc : Nat} {v : SetV} {a : AskE} {ba : Option Addr} {bn bc : Nat} (h : LB W wr sa n sc v a ba bn bc) (b : Below wr.heap.size wr w') : LB W w' sa n sc v a ba bn bc := ⟨Below.tr h.bel b, Nat.le_trans h.sz b.size, h.bS.below b, h.bX.below b, h.bA.below b, h.r8.below b⟩
abbrev enterL (w : World) (sa : Option Addr) (n sc : Nat) (v : SetV) (a : AskE) (ba : Option Addr) (bn bc : Nat) : World :=
  (((w.alloc (.cells #[.slice sa n sc] 24)).alloc (.cells #[.string v.name, .slice v.fa v.fn v.fc, .slice v.sa v.sn v.sc] 47)).alloc (.cells #[.int .i64 a.kind, .string a.set, .string a.file, .string a.to, .int .i64 a.pos, .int .i64 a.num, .slice ba bn bc] 30)).alloc (.cells #[.int .i64 0, .int .i64 0, .slice none 0 0, .slice none 0 0] 34)
theorem szL_alloc (w : World) (o : Obj) : (w.alloc o).heap.size = w.heap.size + 1 := by simp
theorem lb_enter (w : World) (sa : Option Addr) (n sc : Nat) (v : SetV) (a : AskE) (ba : Option Addr) (bn bc : Nat) : LB w (enterL w sa n sc v a ba bn bc) sa n sc v a ba bn bc := by
  have h1 := cellsAt_alloc w #[.slice sa n sc] 24
  have h2 := cellsAt_alloc (w.alloc (.cells #[.slice sa n sc] 24)) #[.string v.name, .slice v.fa v.fn v.fc, .slice v.sa v.sn v.sc] 47
  have h3 := cellsAt_alloc ((w.alloc (.cells #[.slice sa n sc] 24)).alloc (.cells #[.string v.name, .slice v.fa v.fn v.fc, .slice v.sa v.sn v.sc] 47)) #[.int .i64 a.kind, .string a.set, .string a.file, .string a.to, .int .i64 a.pos, .int .i64 a.num, .slice ba bn bc] 30
  have h4 := cellsAt_alloc (((w.alloc (.cells #[.slice sa n sc] 24)).alloc (.cells #[.string v.name, .slice v.fa v.fn v.fc, .slice v.sa v.sn v.sc] 47)).alloc (.cells #[.int .i64 a.kind, .string a.set, .string a.file, .string a.to, .int .i64 a.pos, .int .i64 a.num, .slice ba bn bc] 30)) #[.int .i64 0, .int .i64 0, .slice none 0 0, .slice none 0 0] 34
  simp only [szL_alloc] at h2 h3 h4
  exact ⟨bAl (bAl (bAl (bAl (Below.refl _ w) _) _) _) _, by simp, ((h1.below (below_alloc _ _)).below (below_alloc _ _)).below (below_alloc _ _), (h2.below (below_alloc _ _)).below (below_alloc _ _), h3.below (below_alloc _ _), h4⟩
abbrev putN (w : World) (b : Nat) (N : Int) (y : Option Addr) (ln lc : Nat) : World := (((w.setCell ⟨b, 0, none⟩ (.int .i64 0)).setCell ⟨b, 1, none⟩ (.int .i64 N)).setCell ⟨b, 2, none⟩ (.slice none 0 0)).setCell ⟨b, 3, none⟩ (.slice y ln lc)
theorem kept_putN (w : World) (b : Nat) (N : Int) (y : Option Addr) (ln lc : Nat) : Kept b w (putN w b N y ln lc) := Kept.setCell (g := b) (Kept.setCell (g := b) (Kept.setCell (g := b) (Kept.setCell (g := b) (Kept.refl _ _) (p := ⟨b, 0, none⟩) rfl _) (p := ⟨b, 1, none⟩) rfl _) (p := ⟨b, 2, none⟩) rfl _) (p := ⟨b, 3, none⟩) rfl _
theorem cells_putN {w : World} {b : Nat} {c0 c1 c2 c3 : Value} (h : CellsAt w b #[c0, c1, c2, c3] 34) (N : Int) (y : Option Addr) (ln lc : Nat) : CellsAt (putN w b N y ln lc) b #[.int .i64 0, .int .i64 N, .slice none 0 0, .slice y ln lc] 34 := by
  have k2 := (((h.set 0 (.int .i64 0)).set 1 (.int .i64 N)).set 2 (.slice none 0 0)).set 3 (.slice y ln lc)
  simp only [List.setIfInBounds_toArray, List.set_cons_zero, List.set_cons_succ] at k2
  exact k2
set_option maxHeartbeats 4000000 in
set_option maxRecDepth 100000 in
theorem read_there (Q : Nat → Prop) (sa : Option Addr) (n sc : Nat) (B : Nat → Blk) (key : Int) (v : SetV) (x : SetE) (a : AskE) (ba : Option Addr) (bn bc : Nat) (f : Ent) (w : World) (hs : StoreAt w sa n B) (hX : SetAt Q w v x) (hx : SetOk n B key x) (hf : f ∈ x.files) (hfn : f.nm = a.file.data.toList) (hr : (0 ≤ a.pos ∧ a.pos ≤ 256) ∧ (0 ≤ a.num ∧ a.num ≤ 256)) :
    Calls Tryz.prog 137 #[.agg #[.slice sa n sc], .int .i64 key, v.val, a.val ba bn bc] w fun e w' => RetAn w.heap.size e w' f.size (readL (fileL key (leafAt B 3 f.root)) f.size.toNat a.pos.toNat a.num.toNat) ∧ Below w.heap.size w w' := by
  have hlb := lb_enter w sa n sc v a ba bn bc
  unfold enterL at hlb
  replace hlb := hid hlb
  have ho := hid hx.files.order
  have hvn : v.fn ≤ 6 := by rw [← hX.files.1]; exact hx.files.few
  unfold AskE.val SetV.val
  replace hs := hid hs
  replace hX := hid hX
  replace hx := hid hx
  replace hf := hid hf
  replace hfn := hid hfn
  replace hr := hid hr
  go_enter Tryz.func137, Tryz.ntmps137
  go_wp2_with fail
  generalize (((w.alloc (.cells #[.slice sa n sc] 24)).alloc (.cells #[.string v.name, .slice v.fa v.fn v.fc, .slice v.sa v.sn v.sc] 47)).alloc (.cells #[.int .i64 a.kind, .string a.set, .string a.file, .string a.to, .int .i64 a.pos, .int .i64 a.num, .slice ba bn bc] 30)).alloc (.cells #[.int .i64 0, .int .i64 0, .slice none 0 0, .slice none 0 0] 34) = w0 at *
  refine (findE_any Q v.fa v.fn v.fc x.files a.file w0 (by omega) (hX.out.files.below hlb.out.bel) ho.out).mono ?_
  rintro e w1 ⟨⟨p, b, rfl, hF⟩, b1⟩
  obtain rfl : b = true := (found_some ho.out hF).2 ⟨f, hf.out, hfn.out⟩
  obtain ⟨hp, hpn⟩ := found_at hF
  have hpf : x.files[p] = f := ordered_one Ent.nm ho.out (List.getElem_mem hp) hf.out (hpn.trans hfn.out.symm)
  replace hlb := hid (hlb.out.below b1)
  clear hF hpn b1
  have hXe := hX.out.files.below hlb.out.bel
  have hpv : p < v.fn := by rw [← hXe.1]; exact hp
  obtain ⟨fb, fo, hfb⟩ : ∃ b off, v.fa = some ⟨b, off, none⟩ := by
    obtain ⟨b, off, e, _⟩ := hXe.2.2 (by omega)
    exact ⟨b, off, e⟩
  rw [hfb] at hXe
  have hA := hXe.ent hpv
  have hgd : x.files.getD p Ent.zero = f := by rw [← hpf]; simp [List.getD, hp]
  rw [hgd] at hA
  have c1 := hA.c1
  have c2 := hA.c2
  have x1 := hlb.out.bX.cell 1
  have s0 := hlb.out.bS.cell 0
  have a4 := hlb.out.bA.cell 4
  have a5 := hlb.out.bA.cell 5
  simp at x1 s0 a4 a5
  rw [hfb] at x1
  have lS := hlb.out.bS.lt
  have lA := hlb.out.bA.lt
  have n1 := Nat.ne_of_lt lS
  have n2 := Nat.ne_of_lt lA
  have n1' := n1.symm
  have n2' := n2.symm
  replace hfb := hid hfb
  clear hA hXe hgd hpf hp
  go_wp2_with fail
  have ba1 := below_alloc w1 (.cells #[.int .i64 f.root, .int .i64 f.size] 60)
  have kf := hid (cellsAt_alloc w1 #[.int .i64 f.root, .int .i64 f.size] 60)
  replace hlb := hid (hlb.out.below ba1)
  clear c1 c2 x1 s0 a4 a5 lS lA n1 n2 n1' n2' ba1
  generalize hW2 : w1.alloc (.cells #[.int .i64 f.root, .int .i64 f.size] 60) = w2 at *
  replace hW2 := hid hW2
  refine (fileRead_any sa n sc B key f.root f.size a.pos a.num w2 (hs.out.below hlb.out.bel)).mono ?_
  rintro e w3 ⟨hR, b3⟩
  have hsz2 := hid hlb.out.sz
  replace kf := hid (kf.out.below b3)
  have hbs := hid hlb.out.bel.size
  replace hlb := hid (hlb.out.below b3)
  have hok := hx.out.files.files f hf.out
  rcases hR with ⟨e', _, _, hno⟩ | ⟨y, ln, lc, rfl, _, hlc, hN⟩
  · exact absurd ⟨hok, hr.out⟩ hno
  have f1 := kf.out.cell 1
  have q0 := hlb.out.r8.cell 0
  have q1 := hlb.out.r8.cell 1
  have q2 := hlb.out.r8.cell 2
  have q3 := hlb.out.r8.cell 3
  have z0 := hlb.out.r8.frozen 0
  have z1 := hlb.out.r8.frozen 1
  have z2 := hlb.out.r8.frozen 2
  have z3 := hlb.out.r8.frozen 3
  simp at f1 q0 q1 q2 q3
  have hN' : Hid (NumsAt (fun b => w.heap.size + 4 ≤ b) .u8 w3 y ln (readL (fileL key (leafAt B 3 f.root)) f.size.toNat a.pos.toNat a.num.toNat)) := hid (hN.weaken (fun b _ h => Nat.le_trans hsz2.out h))
  clear hN hok
  go_wp2_with fail
  refine bodyPost_ret (v := .agg #[.int .i64 0, .int .i64 f.size, .slice none 0 0, .slice y ln lc]) ?_ rfl ?_
  · exact results_cell_row rfl _ _ (w.heap.size + 1 + 1 + 1) _ _ _ _ rfl (cells_putN hlb.out.r8 f.size y ln lc) Tryz.underlying34 rfl (by kernel_rfl)
  · exact ⟨⟨y, ln, lc, rfl, hlc, ((hN'.out.kept (fun b h => by omega) (kept_putN _ _ _ _ _ _)).weaken (fun b _ h => by omega))⟩, hlb.out.bel.trans ((kept_putN _ _ _ _ _ _).below (by omega))⟩
def RetLo (base : Nat) (e : Ending) (w : World) (N : Int) (l : List Int) : Prop := ∃ (y : Option Addr) (ln lc : Nat), e = .returned (.tuple #[.agg #[.int .i64 0, .int .i64 N, .slice none 0 0, .slice y ln lc], .int .i64 0]) ∧ ln ≤ lc ∧ NumsAt (fun b => base ≤ b) .u8 w y ln l
set_option maxHeartbeats 4000000 in
set_option maxRecDepth 100000 in
theorem look_read (Q : Nat → Prop) (sa : Option Addr) (n sc : Nat) (B : Nat → Blk) (key : Int) (v : SetV) (x : SetE) (a : AskE) (ba : Option Addr) (bn bc : Nat) (f : Ent) (w : World) (hs : StoreAt w sa n B) (hX : SetAt Q w v x) (hx : SetOk n B key x) (hk : a.kind = 11) (hf : f ∈ x.files) (hfn : f.nm = a.file.data.toList) (hr : (0 ≤ a.pos ∧ a.pos ≤ 256) ∧ (0 ≤ a.num ∧ a.num ≤ 256)) :
    Calls Tryz.prog 99 #[.agg #[.slice sa n sc], .int .i64 key, v.val, a.val ba bn bc] w fun e w' => RetLo w.heap.size e w' f.size (readL (fileL key (leafAt B 3 f.root)) f.size.toNat a.pos.toNat a.num.toNat) ∧ Below w.heap.size w w' := by
  have hlb := lb_enter w sa n sc v a ba bn bc
  unfold enterL at hlb
  replace hlb := hid hlb
  have hk' : (a.kind == 11) = true := by simp [hk]
  unfold AskE.val SetV.val
  replace hs := hid hs
  replace hX := hid hX
  replace hx := hid hx
  replace hf := hid hf
  replace hfn := hid hfn
  replace hr := hid hr
  replace hk := hid hk
  go_enter Tryz.func99, Tryz.ntmps99
  go_wp2_with fail
  generalize (((w.alloc (.cells #[.slice sa n sc] 24)).alloc (.cells #[.string v.name, .slice v.fa v.fn v.fc, .slice v.sa v.sn v.sc] 47)).alloc (.cells #[.int .i64 a.kind, .string a.set, .string a.file, .string a.to, .int .i64 a.pos, .int .i64 a.num, .slice ba bn bc] 30)).alloc (.cells #[.int .i64 0, .int .i64 0, .slice none 0 0, .slice none 0 0] 34) = w0 at *
  refine (setCheck_any Q sa n sc B key v x w0 (hs.out.below hlb.out.bel) (hX.out.below hlb.out.bel)).mono ?_
  rintro e w1 ⟨⟨e', rfl, he⟩, b1⟩
  obtain rfl : e' = 0 := he.2 hx.out
  replace hlb := hid (hlb.out.below b1)
  clear he b1
  have s0 := hlb.out.bS.cell 0
  have x0 := hlb.out.bX.cell 0
  have x1 := hlb.out.bX.cell 1
  have x2 := hlb.out.bX.cell 2
  have a0 := hlb.out.bA.cell 0
  have a1 := hlb.out.bA.cell 1
  have a2 := hlb.out.bA.cell 2
  have a3 := hlb.out.bA.cell 3
  have a4 := hlb.out.bA.cell 4
  have a5 := hlb.out.bA.cell 5
  have a6 := hlb.out.bA.cell 6
  simp at s0 x0 x1 x2 a0 a1 a2 a3 a4 a5 a6
  go_wp2_with fail
  refine (read_there Q sa n sc B key v x a ba bn bc f w1 (hs.out.below hlb.out.bel) (hX.out.below hlb.out.bel) hx.out hf.out hfn.out hr.out).mono ?_
  rintro e w2 ⟨⟨y, ln, lc, rfl, hlc, hN⟩, b2⟩
  have hsz2 := hid hlb.out.sz
  replace hlb := hid (hlb.out.below b2)
  have q0 := hlb.out.r8.cell 0
  have q1 := hlb.out.r8.cell 1
  have q2 := hlb.out.r8.cell 2
  have q3 := hlb.out.r8.cell 3
  have z0 := hlb.out.r8.frozen 0
  have z1 := hlb.out.r8.frozen 1
  have z2 := hlb.out.r8.frozen 2
  have z3 := hlb.out.r8.frozen 3
  simp at q0 q1 q2 q3
  have hN' : Hid (NumsAt (fun b => w.heap.size + 4 ≤ b) .u8 w2 y ln (readL (fileL key (leafAt B 3 f.root)) f.size.toNat a.pos.toNat a.num.toNat)) := hid (hN.weaken (fun b _ h => Nat.le_trans hsz2.out h))
  clear hN b2 s0 x0 x1 x2 a0 a1 a2 a3 a4 a5 a6
  go_wp2_with fail
  refine bodyPost_ret (v := .tuple #[.agg #[.int .i64 0, .int .i64 f.size, .slice none 0 0, .slice y ln lc], .int .i64 0]) (by rw [results_cell_tmp rfl]; go_simp) rfl ?_
  exact ⟨⟨y, ln, lc, rfl, hlc, ((hN'.out.kept (fun b h => by omega) (kept_putN w2 (w.heap.size + 1 + 1 + 1) f.size y ln lc)).weaken (fun b _ h => by omega))⟩, hlb.out.bel.trans ((kept_putN w2 (w.heap.size + 1 + 1 + 1) f.size y ln lc).below (by omega))⟩
end Go.Proofs.YtnmcgmpmcliinaaGreat

namespace Go.Proofs.YtnmcgmpmcliinaaGreat
open Go.RowKit
theorem Tryz.infoStr : (Tryz.prog.info? 9).map (fun i => (i.zero, i.size, i.bytes)) = some (some (.string ⟨#[]⟩), 1, 16) := by kernel_rfl
theorem make_str (n : Nat) (hn : n ≤ 6) (w : World) : ∃ cs : Array Value, cs.size = n ∧ (Instr.makeSlice 32 (.int .i64 n) (.int .i64 n)).run Tryz.prog w = .ok (.slice (some ⟨w.heap.size, 0, none⟩) n n) (w.alloc (.cells cs 9)) := by
  obtain ⟨i0, hi, hz0, hz1, hz2⟩ := info_parts Tryz.infoStr
  refine ⟨madeCells (Value.cells (.string ⟨#[]⟩)) (n * 1), ?_, ?_⟩
  · simp [madeCells]
  · rw [run_makeSlice (P := Tryz.prog) w 32 9 i0 _ Tryz.underlying32 hi hz0 .i64 .i64 n n (by omega) (by omega) (by rw [hz1]; omega) (by rw [hz2]; omega) (by omega), hz1]
    simp
def RetLi (e : Ending) : Prop := ∃ (N : Int) (y : Option Addr) (ln lc : Nat), e = .returned (.agg #[.int .i64 0, .int .i64 N, .slice y ln lc, .slice none 0 0])
set_option maxHeartbeats 4000000 in
set_option maxRecDepth 100000 in
theorem list_any (Q : Nat → Prop) (v : SetV) (x : SetE) (w : World) (hX : SetAt Q w v x) (h6 : x.files.length ≤ 6) :
    Calls Tryz.prog 138 #[.agg #[.string v.name, .slice v.fa v.fn v.fc, .slice v.sa v.sn v.sc]] w fun e w' => RetLi e ∧ Below w.heap.size w w' := by
  have b0 := below_two w (.cells #[.string v.name, .slice v.fa v.fn v.fc, .slice v.sa v.sn v.sc] 47) (.cells #[.int .i64 0, .int .i64 0, .slice none 0 0, .slice none 0 0] 34)
  have k0 : CellsAt _ w.heap.size #[.string v.name, .slice v.fa v.fn v.fc, .slice v.sa v.sn v.sc] 47 := (cellsAt_alloc w _ _).below (below_alloc _ (.cells #[.int .i64 0, .int .i64 0, .slice none 0 0, .slice none 0 0] 34))
  have k1 := cellsAt_alloc2 w (.cells #[.string v.name, .slice v.fa v.fn v.fc, .slice v.sa v.sn v.sc] 47) #[.int .i64 0, .int .i64 0, .slice none 0 0, .slice none 0 0] 34
  have hfl := hid hX.files.1
  have hvn : v.fn ≤ 6 := by rw [← hX.files.1]; exact h6
  have hFi := hid (hX.files.below b0)
  replace b0 := hid b0
  replace k0 := hid k0
  replace k1 := hid k1
  clear hX
  go_enter Tryz.func138, Tryz.ntmps138
  go_upto_region 1 with fail
  generalize (w.alloc (.cells #[.string v.name, .slice v.fa v.fn v.fc, .slice v.sa v.sn v.sc] 47)).alloc (.cells #[.int .i64 0, .int .i64 0, .slice none 0 0, .slice none 0 0] 34) = w0 at *
  obtain ⟨cs, hcs, hmk⟩ := make_str v.fn hvn w0
  have p1 := k0.out.cell 1
  simp at p1
  have b1 := hid (below_alloc w0 (.cells cs 9))
  have kc := hid (cellsAt_alloc w0 cs 9)
  have p1' := ((b1.out).cell (p := ⟨w.heap.size, 1, none⟩) k0.out.lt).trans p1
  replace hcs := hid hcs
  go_wp2_with fail
  clear hmk p1 p1'
  have hz1 : Hid ((w0.alloc (.cells cs 9)).heap.size = w0.heap.size + 1) := hid (by simp)
  generalize w0.alloc (.cells cs 9) = w1 at *
  go_loopw [13] (fun u wr => ∃ (j : Nat) (cs : Array Value), j ≤ v.fn ∧ u = .int .i64 j ∧ Below w0.heap.size w0 wr ∧ CellsAt wr w0.heap.size cs 9 ∧ cs.size = v.fn) (fun u _ => v.fn - (Go.RowKit.intOf u).toNat)
  case atStart => exact ⟨0, cs, Nat.zero_le _, rfl, b1.out, kc.out, hcs.out⟩
  case round =>
    clear kc hcs
    obtain ⟨j, cs, hj, rfl, hb, hc, hsz⟩ := hrel
    by_cases hlt : j < v.fn
    · have hE' := hFi.out.below hb
      obtain ⟨eb, off, hfa, hel, _⟩ := hE'.2.2 (by omega)
      generalize v.fa = vfa at *
      subst hfa
      have hA := hE'.ent hlt
      have c0 := hA.c0
      have c1 := hA.c1
      have c2 := hA.c2
      clear hA hE'
      generalize x.files.getD j Ent.zero = f at *
      have bA := below_alloc wr (.cells #[.string f.name, .int .i64 f.root, .int .i64 f.size] 62)
      have kA := cellsAt_alloc wr #[.string f.name, .int .i64 f.root, .int .i64 f.size] 62
      have hc' := hc.below bA
      replace bA := hid bA
      replace kA := hid kA
      replace hb := hid hb
      go_upto_region 5 with fail
      clear c0 c1 c2
      have hlc := hc.lt
      generalize wr.alloc (.cells #[.string f.name, .int .i64 f.root, .int .i64 f.size] 62) = w5 at *
      have q0 := kA.out.cell 0
      simp at q0
      have y0 := hc'.cell j
      rw [Array.getElem?_eq_getElem (by omega)] at y0
      generalize cs[j] = yv at *
      have yf := hc'.frozen j
      have kS := hc'.set j (.string f.name)
      have kk : Kept w0.heap.size w5 (w5.setCell ⟨w0.heap.size, j, none⟩ (.string f.name)) := Kept.setCell (g := w0.heap.size) (Kept.refl _ _) (p := ⟨w0.heap.size, j, none⟩) rfl _
      have hbb : Below w0.heap.size w0 (w5.setCell ⟨w0.heap.size, j, none⟩ (.string f.name)) := (hb.out.trans (bA.out.mono hb.out.size)).trans (kk.below (Nat.le_refl _))
      have hss : (cs.setIfInBounds j (.string f.name)).size = v.fn := by simpa using hsz
      have hj0 : (0 : Int) ≤ (j : Int) := by omega
      have hjs : (j : Int) < (v.fn : Int) := by omega
      replace kS := hid kS
      replace hbb := hid hbb
      replace hss := hid hss
      clear kk hc hc'
      go_wp2_with fail
      go_roundw
      case rel => exact ⟨j + 1, _, by omega, by go_num, hbb.out, kS.out, hss.out⟩
      case measure => simp [Go.RowKit.intOf]; omega
    · obtain rfl : j = v.fn := by omega
      have k1' := k1.out.below hb
      have r0 := k1'.cell 0
      have r1 := k1'.cell 1
      have r2 := k1'.cell 2
      have r3 := k1'.cell 3
      have g0 := k1'.frozen 0
      have g1 := k1'.frozen 1
      have g2 := k1'.frozen 2
      have g3 := k1'.frozen 3
      simp at r0 r1 r2 r3
      replace k1' := hid k1'
      replace hb := hid hb
      go_wp2_with fail
      clear r0 r1 r2 r3 g0 g1 g2 g3
      have k3 := (((k1'.out.set 0 (.int .i64 0)).set 1 (.int .i64 (v.fn : Int))).set 2 (.slice (some ⟨w0.heap.size, 0, none⟩) v.fn v.fn)).set 3 (.slice none 0 0)
      simp only [List.setIfInBounds_toArray, List.set_cons_succ, List.set_cons_zero] at k3
      have kk : Kept (w.heap.size + 1) wr ((((wr.setCell ⟨w.heap.size + 1, 0, none⟩ (.int .i64 0)).setCell ⟨w.heap.size + 1, 1, none⟩ (.int .i64 (v.fn : Int))).setCell ⟨w.heap.size + 1, 2, none⟩ (.slice (some ⟨w0.heap.size, 0, none⟩) v.fn v.fn)).setCell ⟨w.heap.size + 1, 3, none⟩ (.slice none 0 0)) :=
        Kept.setCell (g := w.heap.size + 1) (Kept.setCell (g := w.heap.size + 1) (Kept.setCell (g := w.heap.size + 1) (Kept.setCell (g := w.heap.size + 1) (Kept.refl _ _) (p := ⟨w.heap.size + 1, 0, none⟩) rfl _) (p := ⟨w.heap.size + 1, 1, none⟩) rfl _) (p := ⟨w.heap.size + 1, 2, none⟩) rfl _) (p := ⟨w.heap.size + 1, 3, none⟩) rfl _
      refine bodyPost_ret (v := .agg #[.int .i64 0, .int .i64 (v.fn : Int), .slice (some ⟨w0.heap.size, 0, none⟩) v.fn v.fn, .slice none 0 0]) ?_ rfl ⟨⟨_, _, _, _, rfl⟩, (Below.tr b0.out hb.out).trans (kk.below (by omega))⟩
      exact results_cell_row rfl _ _ (w.heap.size + 1) _ _ _ _ rfl k3 Tryz.underlying34 rfl (by kernel_rfl)
end Go.Proofs.YtnmcgmpmcliinaaGreat
