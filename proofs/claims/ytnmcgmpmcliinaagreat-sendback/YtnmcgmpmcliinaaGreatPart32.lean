/-
  SetL, Gath, SndM in one text. Nothing here is trusted.
-/
import Derived.Test.YtnmcgmpmcliinaaGreatPart18
import Derived.Test.YtnmcgmpmcliinaaGreatPart23
import Derived.Test.YtnmcgmpmcliinaaGreatPart26
import Derived.Test.YtnmcgmpmcliinaaGreatPart16
import Derived.Test.YtnmcgmpmcliinaaGreatPart31
import Derived.Test.YtnmcgmpmcliinaaGreatPart12
import Derived.Test.YtnmcgmpmcliinaaGreatPart15
import Derived.Test.YtnmcgmpmcliinaaGreatPart17
import Derived.Maps.AppendAt
import Derived.Laws.AppendOwnNone
set_option linter.unusedVariables false
namespace Go.Proofs.YtnmcgmpmcliinaaGreat
open Go.RowKit

/-- a file's bytes, answered -/
def RetAn (base : Nat) (e : Ending) (w : World) (N : Int) (l : List Int) : Prop := ∃ (y : Option Addr) (ln lc : Nat), e = .returned (.agg #[.int .i64 0, .int .i64 N, .slice none 0 0, .slice y ln lc]) ∧ ln ≤ lc ∧ NumsAt (fun b => base ≤ b) .u8 w y ln l

/-- the boxes of read, Look -/
structure LB (W wr : World) (sa : Option Addr) (n sc : Nat) (v : SetV) (a : AskE) (ba : Option Addr) (bn bc : Nat) : Prop where
  bel : Below W.heap.size W wr
  sz : W.heap.size + 4 ≤ wr.heap.size
  bS : CellsAt wr W.heap.size #[.slice sa n sc] 24
  bX : CellsAt wr (W.heap.size + 1) #[.string v.name, .slice v.fa v.fn v.fc, .slice v.sa v.sn v.sc] 47
  bA : CellsAt wr (W.heap.size + 1 + 1) #[.int .i64 a.kind, .string a.set, .string a.file, .string a.to, .int .i64 a.pos, .int .i64 a.num, .slice ba bn bc] 30
  r8 : CellsAt wr (W.heap.size + 1 + 1 + 1) #[.int .i64 0, .int .i64 0, .slice none 0 0, .slice none 0 0] 34
theorem LB.below {W wr w' : World} {sa : Option Addr} {n sc : Nat} {v : SetV} {a : AskE} {ba : Option Addr} {bn bc : Nat} (h : LB W wr sa n sc v a ba bn bc) (b : Below wr.heap.size wr w') : LB W w' sa n sc v a ba bn bc := ⟨Below.tr h.bel b, Nat.le_trans h.sz b.size, h.bS.below b, h.bX.below b, h.bA.below b, h.r8.below b⟩
abbrev enterL (w : World) (sa : Option Addr) (n sc : Nat) (v : SetV) (a : AskE) (ba : Option Addr) (bn bc : Nat) : World :=
  (((w.alloc (.cells #[.slice sa n sc] 24)).alloc (.cells #[.string v.name, .slice v.fa v.fn v.fc, .slice v.sa v.sn v.sc] 47)).alloc (.cells #[.int .i64 a.kind, .string a.set, .string a.file, .string a.to, .int .i64 a.pos, .int .i64 a.num, .slice ba bn bc] 30)).alloc (.cells #[.int .i64 0, .int .i64 0, .slice none 0 0, .slice none 0 0] 34)
theorem szL_alloc (w : World) (o : Obj) : (w.alloc o).heap.size = w.heap.size + 1 := by simp
theorem lb_enter (w : World) (sa : Option Addr) (n sc : Nat) (v : SetV) (a : AskE) (ba : Option Addr) (bn bc : Nat) : LB w (enterL w sa n sc v a ba bn bc) sa n sc v a ba bn bc := by
  have h1 := cellsAt_alloc w #[.slice sa n sc] 24
  have h2 := cellsAt_alloc (w.alloc (.cells #[.slice sa n sc] 24)) #[.string v.name, .slice v.fa v.fn v.fc, .slice v.sa v.sn v.sc] 47
  have h3 := cellsAt_alloc ((w.alloc (.cells #[.slice sa n sc] 24)).alloc (.cells #[.string v.name, .slice v.fa v.fn v.fc, .slice v.sa v.sn v.sc] 47)) #[.int .i64 a.kind, .string a.set, .string a.file, .string a.to, .int .i64 a.pos, .int .i64 a.num, .slice ba bn bc] 30
  have h4 := cellsAt_alloc (((w.alloc (.cells #[.slice sa n sc] 24)).alloc (.cells #[.string v.name, .slice v.fa v.fn v.fc, .slice v.sa v.sn v.sc] 47)).alloc (.cells #[.int .i64 a.kind, .string a.set, .string a.file, .string a.to, .int .i64 a.pos, .int .i64 a.num, .slice ba bn bc] 30)) #[.int .i64 0, .int .i64 0, .slice none 0 0, .slice none 0 0] 34
  simp only [szL_alloc] at h2 h3 h4
  exact ⟨bAl (bAl (bAl (bAl (Below.refl _ w) _) _) _) _, by simp, ((h1.below (below_alloc _ _)).below (below_alloc _ _)).below (below_alloc _ _), (h2.below (below_alloc _ _)).below (below_alloc _ _), h3.below (below_alloc _ _), h4⟩
/-- the world behind the store of an answer -/
abbrev putN (w : World) (b : Nat) (N : Int) (y : Option Addr) (ln lc : Nat) : World := (((w.setCell ⟨b, 0, none⟩ (.int .i64 0)).setCell ⟨b, 1, none⟩ (.int .i64 N)).setCell ⟨b, 2, none⟩ (.slice none 0 0)).setCell ⟨b, 3, none⟩ (.slice y ln lc)
theorem kept_putN (w : World) (b : Nat) (N : Int) (y : Option Addr) (ln lc : Nat) : Kept b w (putN w b N y ln lc) := Kept.setCell (g := b) (Kept.setCell (g := b) (Kept.setCell (g := b) (Kept.setCell (g := b) (Kept.refl _ _) (p := ⟨b, 0, none⟩) rfl _) (p := ⟨b, 1, none⟩) rfl _) (p := ⟨b, 2, none⟩) rfl _) (p := ⟨b, 3, none⟩) rfl _
theorem cells_putN {w : World} {b : Nat} {c0 c1 c2 c3 : Value} (h : CellsAt w b #[c0, c1, c2, c3] 34) (N : Int) (y : Option Addr) (ln lc : Nat) : CellsAt (putN w b N y ln lc) b #[.int .i64 0, .int .i64 N, .slice none 0 0, .slice y ln lc] 34 := by
  have k2 := (((h.set 0 (.int .i64 0)).set 1 (.int .i64 N)).set 2 (.slice none 0 0)).set 3 (.slice y ln lc)
  simp only [List.setIfInBounds_toArray, List.set_cons_zero, List.set_cons_succ] at k2
  exact k2

set_option maxHeartbeats 4000000 in
set_option maxRecDepth 100000 in
theorem read_there (Q : Nat → Prop) (sa : Option Addr) (n sc : Nat) (B : Nat → Blk) (key : Int) (v : SetV) (x : SetE) (a : AskE) (ba : Option Addr) (bn bc : Nat) (f : Ent) (w : World) (hs : StoreAt w sa n B) (hX : SetAt Q w v x) (hx : SetOk n B key x) (hf : f ∈ x.files) (hfn : f.nm = a.file.data.toList) (hr : (0 ≤ a.pos ∧ a.pos ≤ 256) ∧ (0 ≤ a.num ∧ a.num ≤ 256)) :
    Calls Tryz.prog 137 #[.agg #[.slice sa n sc], .int .i64 key, v.val, a.val ba bn bc] w fun e w' => RetAn w.heap.size e w' f.size (readL (fileL key (leafAt B 3 f.root)) f.size.toNat a.pos.toNat a.num.toNat) ∧ Below w.heap.size w w' := by
  have hlb := lb_enter w sa n sc v a ba bn bc
  unfold enterL at hlb
  replace hlb := hid hlb
  have ho := hid hx.files.order
  have hvn : v.fn ≤ 6 := by rw [← hX.files.1]; exact hx.files.few
  unfold AskE.val SetV.val
  replace hs := hid hs
  replace hX := hid hX
  replace hx := hid hx
  replace hf := hid hf
  replace hfn := hid hfn
  replace hr := hid hr
  go_enter Tryz.func137, Tryz.ntmps137
  go_wp2_with fail
  generalize (((w.alloc (.cells #[.slice sa n sc] 24)).alloc (.cells #[.string v.name, .slice v.fa v.fn v.fc, .slice v.sa v.sn v.sc] 47)).alloc (.cells #[.int .i64 a.kind, .string a.set, .string a.file, .string a.to, .int .i64 a.pos, .int .i64 a.num, .slice ba bn bc] 30)).alloc (.cells #[.int .i64 0, .int .i64 0, .slice none 0 0, .slice none 0 0] 34) = w0 at *
  refine (findE_any Q v.fa v.fn v.fc x.files a.file w0 (by omega) (hX.out.files.below hlb.out.bel) ho.out).mono ?_
  rintro e w1 ⟨⟨p, b, rfl, hF⟩, b1⟩
  obtain rfl : b = true := (found_some ho.out hF).2 ⟨f, hf.out, hfn.out⟩
  obtain ⟨hp, hpn⟩ := found_at hF
  have hpf : x.files[p] = f := ordered_one Ent.nm ho.out (List.getElem_mem hp) hf.out (hpn.trans hfn.out.symm)
  replace hlb := hid (hlb.out.below b1)
  clear hF hpn b1
  have hXe := hX.out.files.below hlb.out.bel
  have hpv : p < v.fn := by rw [← hXe.1]; exact hp
  obtain ⟨fb, fo, hfb⟩ : ∃ b off, v.fa = some ⟨b, off, none⟩ := by
    obtain ⟨b, off, e, _⟩ := hXe.2.2 (by omega)
    exact ⟨b, off, e⟩
  rw [hfb] at hXe
  have hA := hXe.ent hpv
  have hgd : x.files.getD p Ent.zero = f := by rw [← hpf]; simp [List.getD, hp]
  rw [hgd] at hA
  have c1 := hA.c1
  have c2 := hA.c2
  have x1 := hlb.out.bX.cell 1
  have s0 := hlb.out.bS.cell 0
  have a4 := hlb.out.bA.cell 4
  have a5 := hlb.out.bA.cell 5
  simp at x1 s0 a4 a5
  rw [hfb] at x1
  have lS := hlb.out.bS.lt
  have lA := hlb.out.bA.lt
  have n1 := Nat.ne_of_lt lS
  have n2 := Nat.ne_of_lt lA
  have n1' := n1.symm
  have n2' := n2.symm
  replace hfb := hid hfb
  clear hA hXe hgd hpf hp
  go_wp2_with fail
  have ba1 := below_alloc w1 (.cells #[.int .i64 f.root, .int .i64 f.size] 60)
  have kf := hid (cellsAt_alloc w1 #[.int .i64 f.root, .int .i64 f.size] 60)
  replace hlb := hid (hlb.out.below ba1)
  clear c1 c2 x1 s0 a4 a5 lS lA n1 n2 n1' n2' ba1
  generalize hW2 : w1.alloc (.cells #[.int .i64 f.root, .int .i64 f.size] 60) = w2 at *
  replace hW2 := hid hW2
  refine (fileRead_any sa n sc B key f.root f.size a.pos a.num w2 (hs.out.below hlb.out.bel)).mono ?_
  rintro e w3 ⟨hR, b3⟩
  have hsz2 := hid hlb.out.sz
  replace kf := hid (kf.out.below b3)
  have hbs := hid hlb.out.bel.size
  replace hlb := hid (hlb.out.below b3)
  have hok := hx.out.files.files f hf.out
  rcases hR with ⟨e', _, _, hno⟩ | ⟨y, ln, lc, rfl, _, hlc, hN⟩
  · exact absurd ⟨hok, hr.out⟩ hno
  have f1 := kf.out.cell 1
  have q0 := hlb.out.r8.cell 0
  have q1 := hlb.out.r8.cell 1
  have q2 := hlb.out.r8.cell 2
  have q3 := hlb.out.r8.cell 3
  have z0 := hlb.out.r8.frozen 0
  have z1 := hlb.out.r8.frozen 1
  have z2 := hlb.out.r8.frozen 2
  have z3 := hlb.out.r8.frozen 3
  simp at f1 q0 q1 q2 q3
  have hN' : Hid (NumsAt (fun b => w.heap.size + 4 ≤ b) .u8 w3 y ln (readL (fileL key (leafAt B 3 f.root)) f.size.toNat a.pos.toNat a.num.toNat)) := hid (hN.weaken (fun b _ h => Nat.le_trans hsz2.out h))
  clear hN hok
  go_wp2_with fail
  refine bodyPost_ret (v := .agg #[.int .i64 0, .int .i64 f.size, .slice none 0 0, .slice y ln lc]) ?_ rfl ?_
  · exact results_cell_row rfl _ _ (w.heap.size + 1 + 1 + 1) _ _ _ _ rfl (cells_putN hlb.out.r8 f.size y ln lc) Tryz.underlying34 rfl (by kernel_rfl)
  · exact ⟨⟨y, ln, lc, rfl, hlc, ((hN'.out.kept (fun b h => by omega) (kept_putN _ _ _ _ _ _)).weaken (fun b _ h => by omega))⟩, hlb.out.bel.trans ((kept_putN _ _ _ _ _ _).below (by omega))⟩

/-- a file's bytes, answered by Look -/
def RetLo (base : Nat) (e : Ending) (w : World) (N : Int) (l : List Int) : Prop := ∃ (y : Option Addr) (ln lc : Nat), e = .returned (.tuple #[.agg #[.int .i64 0, .int .i64 N, .slice none 0 0, .slice y ln lc], .int .i64 0]) ∧ ln ≤ lc ∧ NumsAt (fun b => base ≤ b) .u8 w y ln l

set_option maxHeartbeats 4000000 in
set_option maxRecDepth 100000 in
theorem look_read (Q : Nat → Prop) (sa : Option Addr) (n sc : Nat) (B : Nat → Blk) (key : Int) (v : SetV) (x : SetE) (a : AskE) (ba : Option Addr) (bn bc : Nat) (f : Ent) (w : World) (hs : StoreAt w sa n B) (hX : SetAt Q w v x) (hx : SetOk n B key x) (hk : a.kind = 11) (hf : f ∈ x.files) (hfn : f.nm = a.file.data.toList) (hr : (0 ≤ a.pos ∧ a.pos ≤ 256) ∧ (0 ≤ a.num ∧ a.num ≤ 256)) :
    Calls Tryz.prog 99 #[.agg #[.slice sa n sc], .int .i64 key, v.val, a.val ba bn bc] w fun e w' => RetLo w.heap.size e w' f.size (readL (fileL key (leafAt B 3 f.root)) f.size.toNat a.pos.toNat a.num.toNat) ∧ Below w.heap.size w w' := by
  have hlb := lb_enter w sa n sc v a ba bn bc
  unfold enterL at hlb
  replace hlb := hid hlb
  have hk' : (a.kind == 11) = true := by simp [hk]
  unfold AskE.val SetV.val
  replace hs := hid hs
  replace hX := hid hX
  replace hx := hid hx
  replace hf := hid hf
  replace hfn := hid hfn
  replace hr := hid hr
  replace hk := hid hk
  go_enter Tryz.func99, Tryz.ntmps99
  go_wp2_with fail
  generalize (((w.alloc (.cells #[.slice sa n sc] 24)).alloc (.cells #[.string v.name, .slice v.fa v.fn v.fc, .slice v.sa v.sn v.sc] 47)).alloc (.cells #[.int .i64 a.kind, .string a.set, .string a.file, .string a.to, .int .i64 a.pos, .int .i64 a.num, .slice ba bn bc] 30)).alloc (.cells #[.int .i64 0, .int .i64 0, .slice none 0 0, .slice none 0 0] 34) = w0 at *
  refine (setCheck_any Q sa n sc B key v x w0 (hs.out.below hlb.out.bel) (hX.out.below hlb.out.bel)).mono ?_
  rintro e w1 ⟨⟨e', rfl, he⟩, b1⟩
  obtain rfl : e' = 0 := he.2 hx.out
  replace hlb := hid (hlb.out.below b1)
  clear he b1
  have s0 := hlb.out.bS.cell 0
  have x0 := hlb.out.bX.cell 0
  have x1 := hlb.out.bX.cell 1
  have x2 := hlb.out.bX.cell 2
  have a0 := hlb.out.bA.cell 0
  have a1 := hlb.out.bA.cell 1
  have a2 := hlb.out.bA.cell 2
  have a3 := hlb.out.bA.cell 3
  have a4 := hlb.out.bA.cell 4
  have a5 := hlb.out.bA.cell 5
  have a6 := hlb.out.bA.cell 6
  simp at s0 x0 x1 x2 a0 a1 a2 a3 a4 a5 a6
  go_wp2_with fail
  refine (read_there Q sa n sc B key v x a ba bn bc f w1 (hs.out.below hlb.out.bel) (hX.out.below hlb.out.bel) hx.out hf.out hfn.out hr.out).mono ?_
  rintro e w2 ⟨⟨y, ln, lc, rfl, hlc, hN⟩, b2⟩
  have hsz2 := hid hlb.out.sz
  replace hlb := hid (hlb.out.below b2)
  have q0 := hlb.out.r8.cell 0
  have q1 := hlb.out.r8.cell 1
  have q2 := hlb.out.r8.cell 2
  have q3 := hlb.out.r8.cell 3
  have z0 := hlb.out.r8.frozen 0
  have z1 := hlb.out.r8.frozen 1
  have z2 := hlb.out.r8.frozen 2
  have z3 := hlb.out.r8.frozen 3
  simp at q0 q1 q2 q3
  have hN' : Hid (NumsAt (fun b => w.heap.size + 4 ≤ b) .u8 w2 y ln (readL (fileL key (leafAt B 3 f.root)) f.size.toNat a.pos.toNat a.num.toNat)) := hid (hN.weaken (fun b _ h => Nat.le_trans hsz2.out h))
  clear hN b2 s0 x0 x1 x2 a0 a1 a2 a3 a4 a5 a6
  go_wp2_with fail
  refine bodyPost_ret (v := .tuple #[.agg #[.int .i64 0, .int .i64 f.size, .slice none 0 0, .slice y ln lc], .int .i64 0]) (by rw [results_cell_tmp rfl]; go_simp) rfl ?_
  exact ⟨⟨y, ln, lc, rfl, hlc, ((hN'.out.kept (fun b h => by omega) (kept_putN w2 (w.heap.size + 1 + 1 + 1) f.size y ln lc)).weaken (fun b _ h => by omega))⟩, hlb.out.bel.trans ((kept_putN w2 (w.heap.size + 1 + 1 + 1) f.size y ln lc).below (by omega))⟩
end Go.Proofs.YtnmcgmpmcliinaaGreat

namespace Go.Proofs.YtnmcgmpmcliinaaGreat
open Go.RowKit

def nA : ByteArray := ByteArray.mk #[97]
def nF : ByteArray := ByteArray.mk #[102]
def nS : ByteArray := ByteArray.mk #[115]
def nO : ByteArray := ByteArray.mk #[]
def one3 : List Int := [111, 110, 101]
def two3 : List Int := [116, 119, 111]
def x0 : SetE := ⟨nA, [], []⟩
def ask1 : AskE := ⟨3, nO, nF, nO, 0, 0, one3⟩
def ask2 : AskE := ⟨7, nO, nO, nS, 0, 0, []⟩
def ask3 : AskE := ⟨3, nO, nF, nO, 0, 0, two3⟩
def askL : AskE := ⟨11, nO, nF, nO, 0, 9, []⟩
def ask5 : AskE := ⟨9, nO, nO, nS, 0, 0, []⟩
def zeroB : Nat → Blk := fun _ => Blk.zero
theorem ok1 : ask1.ok := by refine ⟨⟨?_, ?_, ?_⟩, ?_, ?_, ?_⟩ <;> decide
theorem ok2 : ask2.ok := by refine ⟨⟨?_, ?_, ?_⟩, ?_, ?_, ?_⟩ <;> decide
theorem ok3 : ask3.ok := by refine ⟨⟨?_, ?_, ?_⟩, ?_, ?_, ?_⟩ <;> decide
theorem ok5 : ask5.ok := by refine ⟨⟨?_, ?_, ?_⟩, ?_, ?_, ?_⟩ <;> decide
theorem bytes_nil : Bytes [] := fun x hx => by simp at hx
theorem nums_nil (w : World) : NumsAt (fun _ => True) .u8 w none 0 [] := ⟨rfl, fun x hx => by simp at hx, fun h => absurd h (by omega)⟩
theorem isName_A : IsName nA := ⟨by decide, by decide, by intro c hc; simp [nA] at hc; subst hc; left; decide⟩
theorem isName_F : IsName nF := ⟨by decide, by decide, by intro c hc; simp [nF] at hc; subst hc; left; decide⟩
theorem isName_S : IsName nS := ⟨by decide, by decide, by intro c hc; simp [nS] at hc; subst hc; left; decide⟩
theorem used_pos {C D : Nat → Blk} : ∀ {n : Nat}, (∀ k, k < n → 0 < (D k).refs → 0 < (C k).refs) → usedTo D n ≤ usedTo C n
  | 0, _ => Nat.le_refl _
  | n + 1, h => by
    rw [usedTo_succ, usedTo_succ]
    have h1 := used_pos (n := n) fun k hk => h k (by omega)
    have h2 := h n (by omega)
    by_cases hd : 0 < (D n).refs
    · rw [if_pos hd, if_pos (h2 hd)]; omega
    · rw [if_neg hd]; omega
theorem done_used {n : Nat} {C D : Nat → Blk} {K T : List Int} (hC : Right n C) (hK : ∀ r ∈ K, r = 0 ∨ There n C r) (hF : Fell n (moreB C K) D T) : usedTo D n ≤ usedTo C n := used_pos fun k hk h => by
  have h1 := fell_refs hF k hk
  rw [moreB_refs] at h1
  have hb := (hC.one k hk).bounds
  by_cases h0 : (C k).refs = 0
  · exfalso
    have hz : K.count ((k : Int) + 1) = 0 := by
      rw [List.count_eq_zero]
      intro hm
      rcases hK _ hm with h | ⟨_, _, h⟩
      · omega
      · rw [show ((k : Int) + 1 - 1).toNat = k by omega] at h; exact h h0
    rw [hz] at h1
    omega
  · omega
theorem setOk_x0 : SetOk 40 zeroB 1 x0 := setOk_of (by omega) (right_zero 40 (by omega)) ⟨isName_A, by decide, fun e he => by simp [x0] at he, List.Pairwise.nil, by decide, fun s hs => by simp [x0] at hs, List.Pairwise.nil, fun s hs => by simp [x0] at hs⟩ (fun e he => by simp [entsX, x0] at he)
theorem heldR_x0 : HeldR 40 zeroB (rootsX x0) := fun k hk => by
  have h1 : outs 40 zeroB k = 0 := by
    unfold outs
    rw [show among 40 zeroB ((k : Int) + 1) = 0 from among_free (right_zero 40 (by omega)) hk rfl]
    rfl
  rw [h1]
  simp [rootsX, rootsE, rootsS, x0]
theorem few_x0 : ∀ k, k < 40 → (zeroB k).refs ≤ 64 := fun k _ => by show (0 : Int) ≤ 64; omega
theorem bytes_one : Bytes one3 := by intro x hx; simp [one3] at hx; omega
theorem bytes_two : Bytes two3 := by intro x hx; simp [two3] at hx; omega
theorem named_x0 {root size : Int} (h : Named x0 nF root size) : root = 0 ∧ size = 0 := by
  rcases h with ⟨f, hf, _⟩ | ⟨_, h1, h2⟩
  · simp [x0] at hf
  · exact ⟨h1, h2⟩
theorem gover1 : overL ((zeros 256).take (0 : Int).toNat) (0 : Int).toNat one3 = one3 := by kernel_rfl
theorem gchgA : chg (zeros 256) (padTo one3) 64 = 1 := by kernel_rfl
theorem gover2 : overL ((padTo one3).take (3 : Int).toNat) (0 : Int).toNat two3 = two3 := by kernel_rfl
theorem gchgB : chg (padTo one3) (padTo two3) 64 = 1 := by kernel_rfl
theorem gread1 : readL (padTo one3) (3 : Int).toNat (0 : Int).toNat (9 : Int).toNat = one3 := by kernel_rfl
theorem gread2 : readL (padTo two3) (3 : Int).toNat (0 : Int).toNat (9 : Int).toNat = two3 := by kernel_rfl
theorem fileL_B0 : fileL 1 (leafAt zeroB 3 0) = zeros 256 := (fileOk_zero (n := 40) (B := zeroB) (key := 1) (size := 0) (right_zero 40 (by omega)) (by omega) (by omega)).2

theorem g_no1 : ¬ ChgNo 40 zeroB 1 x0 ask1 := fun h => by
  obtain ⟨root, size, hN, h1⟩ := h.1 rfl isName_F ⟨by decide, by decide⟩ (.inr (by decide))
  obtain ⟨rfl, rfl⟩ := named_x0 hN
  have e : overN 1 zeroB ask1 0 0 = one3 := by
    show overL ((fileL 1 (leafAt zeroB 3 0)).take (0 : Int).toNat) (0 : Int).toNat one3 = one3
    rw [fileL_B0, gover1]
  rw [e, fileL_B0, gchgA, show usedTo zeroB 40 = 0 from used_zero 40] at h1
  omega
theorem g1 {D : Nat → Blk} {y : SetE} (h : Did 40 zeroB 1 x0 ask1 64 D y) : ∃ m : Int, y = ⟨nA, [⟨nF, m, 3⟩], []⟩ ∧ fileL 1 (leafAt D 3 m) = padTo one3 ∧ usedTo D 40 ≤ 4 := by
  obtain ⟨C, made, hY, hD, hF⟩ := h
  have hc := hY.chg setOk_x0 bytes_one few_x0
  have hdn := hc.done setOk_x0 heldR_x0 (by unfold moreOf; rw [if_pos (.inl rfl)]; omega) hD hF
  have hu := done_used hc.grow.right hc.there hF
  rcases hY with ⟨_, _, _, root, size, hok, hT, p, ht⟩ | ⟨h, _⟩ | ⟨hp, _⟩
  · rcases ht with ⟨hp, _⟩ | ⟨_, rfl, rfl, _, _, _, rfl⟩
    · exact absurd hp (by simp [x0])
    · have e : overN 1 zeroB ask1 0 0 = one3 := by
        show overL ((fileL 1 (leafAt zeroB 3 0)).take (0 : Int).toNat) (0 : Int).toNat one3 = one3
        rw [fileL_B0, gover1]
      rw [e] at hT
      have hfile := (hT.file hok (by decide) bytes_one).2.1
      have hu2 := hT.used
      rw [fileL_B0, gchgA, show usedTo zeroB 40 = 0 from used_zero 40] at hu2
      have hyy : ({ x0 with files := x0.files.take p ++ (⟨ask1.file, made, ((overN 1 zeroB ask1 0 0).length : Int)⟩ : Ent) :: x0.files.drop p } : SetE) = ⟨nA, [⟨nF, made, 3⟩], []⟩ := by
        rw [e]
        simp [x0, ask1, one3]
      refine ⟨made, hyy, ?_, by omega⟩
      rw [hyy] at hdn
      rw [hdn.2.1 ⟨nF, made, 3⟩ (by simp [entsX])]
      exact hfile
  · exact absurd h (by decide)
  · rcases hp with ⟨h, _⟩ | ⟨h, _⟩ | ⟨h, _⟩ | ⟨h, _⟩ | ⟨h, _⟩ <;> exact absurd h (by decide)
theorem g_no2 {B : Nat → Blk} {m : Int} : ¬ ChgNo 40 B 1 ⟨nA, [⟨nF, m, 3⟩], []⟩ ask2 := fun h => h.2.2.1 rfl ⟨isName_S, by simp, by simp⟩
theorem plain_used {B D : Nat → Blk} {x y : SetE} {a : AskE} {cc : Int} (hx : SetOk 40 B 1 x) (h : Did 40 B 1 x a cc D y) (h3 : a.kind ≠ 3) (h4 : a.kind ≠ 4) : usedTo D 40 ≤ usedTo B 40 := by
  obtain ⟨hp, hD, hF⟩ := h.plain h3 h4
  refine done_used hx.right (fun r hr => ?_) hF
  rw [rootsX_eq] at hr
  obtain ⟨e, he, rfl⟩ := mem_rootsE.1 hr
  rcases ((plain_facts hx hp).2.1 e he).rooted with h0 | ⟨h1, _⟩
  · exact .inl h0
  · exact .inr h1
theorem g2 {B D : Nat → Blk} {y : SetE} {m cc : Int} (h : Did 40 B 1 ⟨nA, [⟨nF, m, 3⟩], []⟩ ask2 cc D y) : y = ⟨nA, [⟨nF, m, 3⟩], [⟨nS, [⟨nF, m, 3⟩]⟩]⟩ := by
  obtain ⟨_, q, _, _, rfl⟩ := plain_snap (h.plain (by decide) (by decide)).1 rfl
  simp [ask2]
theorem named_y2 {root size m : Int} (h : Named ⟨nA, [⟨nF, m, 3⟩], [⟨nS, [⟨nF, m, 3⟩]⟩]⟩ nF root size) : root = m ∧ size = 3 := by
  rcases h with ⟨f, hf, _, h1, h2⟩ | ⟨h, _⟩
  · simp at hf
    subst hf
    exact ⟨h1, h2⟩
  · exact absurd ⟨⟨nF, m, 3⟩, by simp, rfl⟩ h
theorem g_no3 {B : Nat → Blk} {m : Int} (hf : fileL 1 (leafAt B 3 m) = padTo one3) (hu : usedTo B 40 ≤ 4) : ¬ ChgNo 40 B 1 ⟨nA, [⟨nF, m, 3⟩], [⟨nS, [⟨nF, m, 3⟩]⟩]⟩ ask3 := fun h => by
  obtain ⟨root, size, hN, h1⟩ := h.1 rfl isName_F ⟨by decide, by decide⟩ (.inr (by simp))
  obtain ⟨rfl, rfl⟩ := named_y2 hN
  have e : overN 1 B ask3 root 3 = two3 := by
    show overL ((fileL 1 (leafAt B 3 root)).take (3 : Int).toNat) (0 : Int).toNat two3 = two3
    rw [hf, gover2]
  rw [e, hf, gchgB] at h1
  omega
theorem g3 {B D : Nat → Blk} {y : SetE} {m cc : Int} (hx : SetOk 40 B 1 ⟨nA, [⟨nF, m, 3⟩], [⟨nS, [⟨nF, m, 3⟩]⟩]⟩) (hh : HeldR 40 B (rootsX ⟨nA, [⟨nF, m, 3⟩], [⟨nS, [⟨nF, m, 3⟩]⟩]⟩)) (hc : ∀ k, k < 40 → (B k).refs ≤ cc) (hcc : cc + 48 + 24 ≤ 1000000) (hf : fileL 1 (leafAt B 3 m) = padTo one3) (h : Did 40 B 1 ⟨nA, [⟨nF, m, 3⟩], [⟨nS, [⟨nF, m, 3⟩]⟩]⟩ ask3 cc D y) :
    ∃ m3 : Int, y = ⟨nA, [⟨nF, m3, 3⟩], [⟨nS, [⟨nF, m, 3⟩]⟩]⟩ ∧ fileL 1 (leafAt D 3 m3) = padTo two3 := by
  obtain ⟨C, made, hY, hD, hF⟩ := h
  have hcg := hY.chg hx bytes_two hc
  have hdn := hcg.done hx hh (by unfold moreOf; rw [if_pos (.inl rfl)]; exact hcc) hD hF
  rcases hY with ⟨_, _, _, root, size, hok, hT, p, ht⟩ | ⟨h, _⟩ | ⟨hp, _⟩
  · rcases ht with ⟨hp, _, hr, hs, rfl⟩ | ⟨h, _⟩
    · have hp0 : p = 0 := by simp at hp; omega
      subst hp0
      simp at hr hs
      subst hr hs
      have e : overN 1 B ask3 root 3 = two3 := by
        show overL ((fileL 1 (leafAt B 3 root)).take (3 : Int).toNat) (0 : Int).toNat two3 = two3
        rw [hf, gover2]
      rw [e] at hT
      have hfile := (hT.file hok (by decide) bytes_two).2.1
      refine ⟨made, by rw [e]; simp [two3], ?_⟩
      have := hdn.2.1 ⟨nF, made, ((overN 1 B ask3 root 3).length : Int)⟩ (by simp [entsX])
      exact this.trans hfile
    · exact absurd ⟨⟨nF, m, 3⟩, by simp, rfl⟩ h
  · exact absurd h (by decide)
  · rcases hp with ⟨h, _⟩ | ⟨h, _⟩ | ⟨h, _⟩ | ⟨h, _⟩ | ⟨h, _⟩ <;> exact absurd h (by decide)
theorem g_no5 {B : Nat → Blk} {m m3 : Int} : ¬ ChgNo 40 B 1 ⟨nA, [⟨nF, m3, 3⟩], [⟨nS, [⟨nF, m, 3⟩]⟩]⟩ ask5 := fun h => h.2.2.2.2 rfl ⟨isName_S, ⟨nS, [⟨nF, m, 3⟩]⟩, by simp, rfl⟩
theorem g5 {B D : Nat → Blk} {y : SetE} {m m3 cc : Int} (h : Did 40 B 1 ⟨nA, [⟨nF, m3, 3⟩], [⟨nS, [⟨nF, m, 3⟩]⟩]⟩ ask5 cc D y) : y = ⟨nA, [⟨nF, m, 3⟩], [⟨nS, [⟨nF, m, 3⟩]⟩]⟩ := by
  obtain ⟨_, q, hq, _, rfl⟩ := plain_back (h.plain (by decide) (by decide)).1 rfl
  have hq0 : q = 0 := by simp at hq; omega
  subst hq0
  rfl
end Go.Proofs.YtnmcgmpmcliinaaGreat

namespace Go.Proofs.YtnmcgmpmcliinaaGreat
open Go.RowKit

/-- a change -/
structure DifE where
  kind : Int
  name : ByteArray
  num : Int
  bytes : List Int
/-- a change, and where its bytes lie -/
structure DifM where
  e : DifE
  ba : Option Addr
  bn : Nat
  bc : Nat
def DifM.cells (m : DifM) : List Value := [.int .i64 m.e.kind, .string m.e.name, .int .i64 m.e.num, .slice m.ba m.bn m.bc]
theorem DifM.cells_len (m : DifM) : m.cells.length = 4 := rfl
theorem DifM.cells_one (m : DifM) : ∀ v ∈ m.cells, v.oneCell' = true := by
  intro v hv
  simp only [DifM.cells, List.mem_cons, List.not_mem_nil, or_false] at hv
  rcases hv with rfl | rfl | rfl | rfl <;> rfl
def difCells (l : List DifM) : List Value := l.flatMap DifM.cells
theorem difCells_len (l : List DifM) : (difCells l).length = l.length * 4 := flat_len DifM.cells_len l
theorem difCells_one (l : List DifM) : ∀ v ∈ difCells l, v.oneCell' = true := fun v hv => by
  obtain ⟨e, _, h⟩ := List.mem_flatMap.1 hv
  exact e.cells_one v h
def I64 (x : Int) : Prop := -9223372036854775808 ≤ x ∧ x ≤ 9223372036854775807
structure DifM.At (Q : Nat → Prop) (w : World) (m : DifM) : Prop where
  bytes : NumsAt Q .u8 w m.ba m.bn m.e.bytes
  caps : m.bn ≤ m.bc
  small : m.e.name.size ≤ maxLen
  kb : I64 m.e.kind
  nb : I64 m.e.num
theorem DifM.At.only {Q K : Nat → Prop} {a b : World} {m : DifM} (h : m.At Q a) (on : Only K a b) (hq : ∀ k, Q k → ¬ K k) : m.At Q b := ⟨on.nums h.bytes hq, h.caps, h.small, h.kb, h.nb⟩
theorem DifM.At.below {Q : Nat → Prop} {a b : World} {m : DifM} (h : m.At Q a) (bb : Below a.heap.size a b) : m.At Q b := ⟨h.bytes.below bb, h.caps, h.small, h.kb, h.nb⟩
theorem DifM.At.weaken {Q R : Nat → Prop} {w : World} {m : DifM} (h : m.At Q w) (hq : ∀ b, b < w.heap.size → Q b → R b) : m.At R w := ⟨h.bytes.weaken hq, h.caps, h.small, h.kb, h.nb⟩

/-- a change without bytes -/
theorem dif_at0 (Q : Nat → Prop) (w : World) (k : Int) (nm : ByteArray) (z : Int) (hn : nm.size ≤ maxLen) (hk : I64 k) (hz : I64 z) : DifM.At Q w ⟨⟨k, nm, z, []⟩, none, 0, 0⟩ := ⟨⟨rfl, fun x hx => by simp at hx, fun f => absurd f (Nat.lt_irrefl 0)⟩, Nat.le_refl _, hn, hk, hz⟩

/-- a row of changes of one's own -/
structure DRow (base : Nat) (w : World) (v : Value) (ms : List DifM) : Prop where
  row : w.ownsRow base 104 4 v ms.length (difCells ms)
  els : ∀ m ∈ ms, m.At (fun b => base ≤ b ∧ v.ownBlock ≠ some b) w
theorem DRow.nil (base : Nat) (w : World) : DRow base w (.slice none 0 0) [] := ⟨World.ownsRow_nil _ _ _ _, fun m hm => by simp at hm⟩
theorem DRow.val {base : Nat} {w : World} {v : Value} {ms : List DifM} (h : DRow base w v ms) : ∃ a c, v = .slice a ms.length c ∧ ms.length ≤ c ∧ (a = none → ms.length = 0 ∧ c = 0) := by
  rcases h.row.2 with ⟨hv, h0⟩ | ⟨g, cap, cur, hv, _, _, hc, _⟩
  · exact ⟨none, 0, by rw [hv, h0], by omega, fun _ => ⟨h0, rfl⟩⟩
  · exact ⟨_, _, hv, hc, fun f => by cases f⟩
theorem DRow.below {base : Nat} {w w' : World} {v : Value} {ms : List DifM} (h : DRow base w v ms) (b : Below w.heap.size w w') : DRow base w' v ms := ⟨row_below h.row b, fun m hm => (h.els m hm).below b⟩
theorem DRow.base {base base' : Nat} {w : World} {v : Value} {ms : List DifM} (h : DRow base w v ms) (hb : base' ≤ base) : DRow base' w v ms := by
  refine ⟨⟨h.row.1, ?_⟩, fun m hm => (h.els m hm).weaken (fun b _ q => ⟨Nat.le_trans hb q.1, q.2⟩)⟩
  rcases h.row.2 with h | ⟨g, cap, cur, hv, h1, h2⟩
  · exact .inl h
  · exact .inr ⟨g, cap, cur, hv, Nat.le_trans hb h1, h2⟩
/-- behind an append -/
theorem DRow.grow {base : Nat} {w w1 w7 : World} {v v' : Value} {ms ns : List DifM} (h : DRow base w v ms) (hb : base ≤ w.heap.size) (b1 : Below w.heap.size w w1) (hrow : w7.ownsRow base 104 4 v' (ms.length + ns.length) (difCells ms ++ difCells ns)) (hg : w1.grownBy w7 v.ownBlock) (hat : v'.ownBlock = v.ownBlock ∨ v'.ownBlock = some w1.heap.size) (hns : ∀ m ∈ ns, m.At (fun b => base ≤ b ∧ v.ownBlock ≠ some b) w1) :
    DRow base w7 v' (ms ++ ns) ∧ Below base w w7 ∧ Only (fun b => v.ownBlock = some b) w w7 ∧ (v'.ownBlock = v.ownBlock ∨ ∃ g, v'.ownBlock = some g ∧ w.heap.size ≤ g) := by
  have og : Only (fun b => v.ownBlock = some b) w1 w7 := only_grown hg (fun k hk => hk)
  have hvge : ∀ b, v.ownBlock = some b → base ≤ b := fun b hb => (h.row.lt b hb).1
  have hnew : ∀ b, b < w1.heap.size → v.ownBlock ≠ some b → v'.ownBlock ≠ some b := fun b hb hn e => by
    rcases hat with h1 | h1
    · exact hn (by rw [← h1]; exact e)
    · rw [h1] at e; cases e; omega
  have lift : ∀ x : DifM, x.At (fun b => base ≤ b ∧ v.ownBlock ≠ some b) w1 → x.At (fun b => base ≤ b ∧ v'.ownBlock ≠ some b) w7 := fun x h5 => by
    have h7 := h5.weaken (R := fun b => base ≤ b ∧ v.ownBlock ≠ some b ∧ b < w1.heap.size) (fun b hb q => ⟨q.1, q.2, hb⟩)
    exact (h7.only og (fun b q e => q.2.1 e)).weaken (fun b _ q => ⟨q.1, hnew b q.2.2 q.2.1⟩)
  refine ⟨⟨?_, fun x hx => ?_⟩, (b1.mono hb).trans (og.below (fun k hk => hvge k hk) (Nat.le_trans hb b1.size)), (Only.of_below b1).trans og, hat.imp id (fun f => ⟨_, f, b1.size⟩)⟩
  · rw [List.length_append]
    unfold difCells
    rw [List.flatMap_append]
    exact hrow
  · rcases List.mem_append.1 hx with hx | hx
    · exact lift x ((h.els x hx).below b1)
    · exact lift x (hns x hx)
theorem Tryz.infoDif : (Tryz.prog.info? 104).map (fun i => (i.zero, i.size, i.bytes)) = some (some (.agg #[.int .i64 0, .string ⟨#[]⟩, .int .i64 0, .slice none 0 0]), 4, 56) := by kernel_rfl
/-- append of one change -/
theorem DRow.push {base : Nat} {w w1 : World} {v : Value} {ms : List DifM} (h : DRow base w v ms) (hb : base ≤ w.heap.size) (b1 : Below w.heap.size w w1) (m : DifM) (g : Nat) (hbox : CellsAt w1 g m.cells.toArray 104) (hm : m.At (fun b => base ≤ b ∧ v.ownBlock ≠ some b) w1) (hn : ms.length ≤ 1000) (ty : TypeId) :
    ∃ v' w7, (Builtin.append_ #[53, 53] ty #[v, .slice (some ⟨g, 0, none⟩) 1 1]).run Tryz.prog w1 = .ok v' w7 ∧ DRow base w7 v' (ms ++ [m]) ∧ Below base w w7 ∧ Only (fun b => v.ownBlock = some b) w w7 ∧ (v'.ownBlock = v.ownBlock ∨ ∃ g, v'.ownBlock = some g ∧ w.heap.size ≤ g) := by
  obtain ⟨i0, hi, hz0, hz1, hz2⟩ := info_parts Tryz.infoDif
  obtain ⟨v', w', hr, ho, hgr, _, hat⟩ := run_append_own_at (P := Tryz.prog) w1 base 53 ty 104 i0 _ 4 56 Tryz.underlying53 hi hz0 hz1 hz2 rfl (by decide) v ms.length _ (row_below h.row b1) ⟨g, 0, none⟩ 1 1 m.cells rfl (fun j u hj => by
    have hadd : (⟨g, 0, none⟩ : Addr).add j = ⟨g, j, none⟩ := by unfold Addr.add; split <;> simp_all
    rw [hadd, hbox.cell j]
    simpa using hj) m.cells_one (by unfold maxLen; omega) (by omega) (Nat.le_trans hb b1.size)
  exact ⟨v', w', hr, h.grow hb b1 (ns := [m]) (by simpa [difCells] using ho) hgr hat (fun x hx => by rw [List.mem_singleton.1 hx]; exact hm)⟩
/-- append of another row -/
theorem DRow.join {base base2 : Nat} {w w1 : World} {v u : Value} {ms ns : List DifM} (h : DRow base w v ms) (hb : base ≤ w.heap.size) (b1 : Below w.heap.size w w1) (hu : DRow base2 w1 u ns) (hb2 : w.heap.size ≤ base2) (hn : ms.length ≤ 1000) (hn2 : ns.length ≤ 1000) (ty : TypeId) :
    ∃ v' w7, (Builtin.append_ #[53, 53] ty #[v, u]).run Tryz.prog w1 = .ok v' w7 ∧ DRow base w7 v' (ms ++ ns) ∧ Below base w w7 ∧ Only (fun b => v.ownBlock = some b) w w7 ∧ (v'.ownBlock = v.ownBlock ∨ ∃ g, v'.ownBlock = some g ∧ w.heap.size ≤ g) := by
  obtain ⟨i0, hi, hz0, hz1, hz2⟩ := info_parts Tryz.infoDif
  have hrow := row_below h.row b1
  have hvlt : ∀ b, v.ownBlock = some b → b < w.heap.size := fun b hb => (h.row.lt b hb).2
  have hels : ∀ m ∈ ns, m.At (fun b => base ≤ b ∧ v.ownBlock ≠ some b) w1 := fun m hm => (hu.els m hm).weaken (fun b _ q => ⟨by omega, fun f => by have := hvlt b f; omega⟩)
  rcases hu.row.2 with ⟨rfl, h0⟩ | ⟨g, cap, cur, rfl, _, hg, hnc, _, hsz, hcs⟩
  · obtain rfl : ns = [] := List.eq_nil_of_length_eq_zero h0
    refine ⟨v, w1, run_append_owned_none (P := Tryz.prog) (w := w1) base 53 ty 104 i0 4 Tryz.underlying53 hi v ms.length _ hrow, by rw [List.append_nil]; exact h.below b1, b1.mono hb, Only.of_below b1, .inl rfl⟩
  · obtain ⟨v', w', hr, ho, hgr, _, hat⟩ := run_append_own_at (P := Tryz.prog) w1 base 53 ty 104 i0 _ 4 56 Tryz.underlying53 hi hz0 hz1 hz2 rfl (by decide) v ms.length _ hrow ⟨g, 0, none⟩ ns.length cap (difCells ns) (difCells_len ns) (fun j w0 hj => by
      have hadd : (⟨g, 0, none⟩ : Addr).add j = ⟨g, j, none⟩ := by unfold Addr.add; split <;> simp_all
      rw [hadd]
      have hjl : j < ns.length * 4 := by
        rw [← difCells_len]
        rcases Nat.lt_or_ge j (difCells ns).length with h | h
        · exact h
        · rw [List.getElem?_eq_none h] at hj; cases hj
      exact (hu.row.cellAt j hjl).trans hj) (difCells_one ns) (by unfold maxLen; omega) (by omega) (Nat.le_trans hb b1.size)
    exact ⟨v', w', hr, h.grow hb b1 ho hgr hat hels⟩

/-- what find's closure says -/
theorem sfindIs_any (x : Ent) (t : ByteArray) (pb : Nat) (w : World) (hp : CellsAt w pb #[.string t] 9) :
    Calls Tryz.prog 107 #[.agg #[.string x.name, .int .i64 x.root, .int .i64 x.size], .pointer (some ⟨pb, 0, none⟩)] w fun e w' => e = .returned (.bool (decide (x.name = t))) ∧ Below w.heap.size w w' := by
  have b0 := below_alloc w (.cells #[.string x.name, .int .i64 x.root, .int .i64 x.size] 62)
  have hp1 := (hp.below b0).cell 0
  simp at hp1
  replace hp := hid hp
  go_enter Tryz.func107, Tryz.ntmps107
  go_wp2_with fail
  go_ret
  refine ⟨?_, b0⟩
  have e : (x.name.toList == t.toList) = decide (x.name = t) := by
    rw [ByteArray.toList_eq, ByteArray.toList_eq]
    by_cases h : x.name = t
    · simp [h]
    · have h2 : x.name.data.toList ≠ t.data.toList := fun f => h (bytes_eq f)
      rw [decide_eq_false h]
      exact beq_eq_false_iff_ne.2 h2
  rw [e]
  rfl
/-- the first of that name, or none -/
def look (l : List Ent) (t : ByteArray) : Option Ent := l.find? fun e => decide (e.name = t)
theorem look_some {l : List Ent} {t : ByteArray} {i : Nat} {x : Ent} (h : l[i]? = some x) (hx : x.name = t) (hno : ∀ k, k < i → ∀ y, l[k]? = some y → y.name ≠ t) : look l t = some x := by
  obtain ⟨h1, h2⟩ := List.getElem?_eq_some_iff.1 h
  refine List.find?_eq_some_iff_getElem.2 ⟨by simp [hx], i, h1, h2, fun j hj => ?_⟩
  have hjl : j < l.length := by omega
  have := hno j hj l[j] (List.getElem?_eq_getElem hjl)
  simp [this]
theorem look_none {l : List Ent} {t : ByteArray} (h : ∀ x ∈ l, x.name ≠ t) : look l t = none := List.find?_eq_none.2 (fun x hx => by simp [h x hx])
theorem look_mem {l : List Ent} {t : ByteArray} {x : Ent} (h : look l t = some x) : x ∈ l ∧ x.name = t := ⟨List.mem_of_find?_eq_some h, by have := List.find?_some h; simpa using this⟩
theorem look_no {l : List Ent} {t : ByteArray} (h : look l t = none) : ∀ x ∈ l, x.name ≠ t := fun x hx => by have := List.find?_eq_none.1 h x hx; simpa using this
def Ix (l : List Ent) (t : ByteArray) (e : Ending) : Prop := (e = .returned (.int .i64 (-1)) ∧ look l t = none) ∨ (∃ (i : Nat) (x : Ent), e = .returned (.int .i64 i) ∧ l[i]? = some x ∧ look l t = some x)

set_option maxHeartbeats 1000000 in
set_option maxRecDepth 100000 in
theorem sindex_any (Q : Nat → Prop) (a : Option Addr) (n c : Nat) (l : List Ent) (t : ByteArray) (pb : Nat) (w : World) (hn : n ≤ 1000) (h : EntsAt Q w a n l) (hp : CellsAt w pb #[.string t] 9) :
    Calls Tryz.prog 106 #[.slice a n c, .func (.func 107) #[] #[.pointer (some ⟨pb, 0, none⟩)]] w fun e w' => Ix l t e ∧ Below w.heap.size w w' := by
  have hl := h.1
  replace h := hid h
  replace hp := hid hp
  go_enter Tryz.func106, Tryz.ntmps106
  go_wp2_with fail
  go_loopw [8] (fun v wr => ∃ i : Nat, i ≤ n ∧ v = .int .i64 i ∧ (∀ k, k < i → ∀ x, l[k]? = some x → x.name ≠ t) ∧ Below w.heap.size w wr) (fun v _ => n - (Go.RowKit.intOf v).toNat)
  case atStart => exact ⟨0, Nat.zero_le _, rfl, fun k hk => absurd hk (by omega), Below.refl _ _⟩
  case round =>
    obtain ⟨i, hin, rfl, hno, hbel⟩ := hrel
    replace hno := hid hno
    by_cases hlt : i < n
    · have hE := h.out.below hbel
      obtain ⟨b, off, rfl, hb, _, hc⟩ := hE.2.2 (by omega)
      have hx := hc i hlt
      have c0 := hx.c0
      have c1 := hx.c1
      have c2 := hx.c2
      have hil : i < l.length := by omega
      have hxe : l[i]? = some (l.getD i Ent.zero) := by simp [List.getD, hil]
      clear hE hc hx
      generalize l.getD i Ent.zero = x at *
      replace hxe := hid hxe
      have hp1 := hid (hp.out.below hbel)
      go_wp2_with fail
      refine (sfindIs_any x t pb wr hp1.out).mono ?_
      rintro e w1 ⟨rfl, b1⟩
      replace hbel := Below.tr hbel b1
      by_cases h0 : x.name = t
      · have h0' : decide (x.name = t) = true := by simp [h0]
        rw [h0']
        have h0h := hid h0
        clear h0 h0'
        go_wp2_with fail
        go_ret
        exact ⟨.inr ⟨i, x, rfl, hxe.out, look_some hxe.out h0h.out hno.out⟩, hbel⟩
      · have h0' : decide (x.name = t) = false := by simp [h0]
        rw [h0']
        have h0h := hid h0
        clear h0 h0'
        go_wp2_with fail
        go_roundw
        case rel =>
          refine ⟨i + 1, by omega, by go_num, fun k hk y hy => ?_, hbel⟩
          rcases Nat.lt_or_ge k i with h' | h'
          · exact hno.out k h' y hy
          · obtain rfl : k = i := by omega
            rw [hxe.out] at hy
            cases hy
            exact h0h.out
        case measure => simp [Go.RowKit.intOf]; omega
    · obtain rfl : i = n := by omega
      go_wp2_with fail
      go_ret
      refine ⟨.inl ⟨rfl, look_none fun x hx => ?_⟩, hbel⟩
      obtain ⟨k, hk⟩ := List.getElem?_of_mem hx
      exact hno.out k (by obtain ⟨h1, _⟩ := List.getElem?_eq_some_iff.1 hk; omega) x hk
/-- what find answers: one of that name, or none -/
def rootO (o : Option Ent) : Int := match o with
  | some x => x.root
  | none => 0
def sizeO (o : Option Ent) : Int := match o with
  | some x => x.size
  | none => 0
def RetSf (l : List Ent) (t : ByteArray) (e : Ending) : Prop := e = .returned (.tuple #[.agg #[.int .i64 (rootO (look l t)), .int .i64 (sizeO (look l t))], .bool (look l t).isSome])
set_option maxHeartbeats 1000000 in
set_option maxRecDepth 100000 in
theorem sfind_any (Q : Nat → Prop) (a : Option Addr) (n c : Nat) (l : List Ent) (t : ByteArray) (w : World) (hn : n ≤ 1000) (h : EntsAt Q w a n l) :
    Calls Tryz.prog 73 #[.slice a n c, .string t] w fun e w' => RetSf l t e ∧ Below w.heap.size w w' := by
  have hmf : ∀ (fn : Fn) (first cap : Array Value) (w : World), (Instr.makeFunc fn first cap).run Tryz.prog w = .ok (.func fn first cap) w := fun _ _ _ _ => rfl
  have hl := h.1
  have b0 := below_alloc w (.cells #[.string t] 9)
  have b1 := b0.alloc (by simp) (.cells #[.int .i64 0, .int .i64 0] 60)
  have kt := (cellsAt_alloc w #[.string t] 9).below (below_alloc _ (.cells #[.int .i64 0, .int .i64 0] 60))
  have kf := cellsAt_alloc2 w (.cells #[.string t] 9) #[.int .i64 0, .int .i64 0] 60
  have h1 := hid (h.below b1)
  replace kt := hid kt
  replace kf := hid kf
  replace b1 := hid b1
  clear b0 h
  go_enter Tryz.func73, Tryz.ntmps73
  go_wp2_with fail
  generalize (w.alloc (.cells #[.string t] 9)).alloc (.cells #[.int .i64 0, .int .i64 0] 60) = w0 at *
  refine (sindex_any Q a n c l t w.heap.size w0 hn h1.out kt.out).mono ?_
  rintro e w1 ⟨hix, b2⟩
  have kf1 := kf.out.below b2
  have q0 := kf1.cell 0
  have q1 := kf1.cell 1
  have f0 := kf1.frozen 0
  have f1 := kf1.frozen 1
  simp at q0 q1
  have kk := kf1
  clear kf1
  rcases hix with ⟨rfl, hno⟩ | ⟨i, x, rfl, hx, hxn⟩
  · have J : Hid (Below w.heap.size w ((w1.setCell ⟨w.heap.size + 1, 0, none⟩ (.int .i64 0)).setCell ⟨w.heap.size + 1, 1, none⟩ (.int .i64 0))) := hid ((Below.tr b1.out b2).trans ((Kept.setCell (g := w.heap.size + 1) (Kept.setCell (g := w.heap.size + 1) (Kept.refl _ _) (p := ⟨w.heap.size + 1, 0, none⟩) rfl _) (p := ⟨w.heap.size + 1, 1, none⟩) rfl _).below (by omega)))
    replace hno := hid hno
    clear b2
    replace kk := hid kk
    go_wp2_with fail
    refine bodyPost_ret (v := .tuple #[.agg #[.int .i64 0, .int .i64 0], .bool false]) (by rw [results_cell_tmp rfl]; go_simp) rfl ⟨by unfold RetSf; rw [hno.out]; rfl, J.out⟩
  · have hE := h1.out.below b2
    obtain ⟨hil, hxe⟩ := List.getElem?_eq_some_iff.1 hx
    have hin : i < n := by omega
    obtain ⟨b, off, rfl, hb, _, hc⟩ := hE.2.2 (by omega)
    have hxx := hc i hin
    have hgd : l.getD i Ent.zero = x := by simp [List.getD, hil, hxe]
    rw [hgd] at hxx
    have c0 := hxx.c0
    have c1 := hxx.c1
    have c2 := hxx.c2
    clear hE hc hxx
    have J : Hid (Below w.heap.size w ((w1.setCell ⟨w.heap.size + 1, 0, none⟩ (.int .i64 x.root)).setCell ⟨w.heap.size + 1, 1, none⟩ (.int .i64 x.size))) := hid ((Below.tr b1.out b2).trans ((Kept.setCell (g := w.heap.size + 1) (Kept.setCell (g := w.heap.size + 1) (Kept.refl _ _) (p := ⟨w.heap.size + 1, 0, none⟩) rfl _) (p := ⟨w.heap.size + 1, 1, none⟩) rfl _).below (by omega)))
    have hxm := hid (List.mem_of_getElem? hx)
    replace hxn := hid hxn
    have hge : ¬ ((i : Int) < 0) := by omega
    clear b2 hgd hxe hx
    replace kk := hid kk
    go_wp2_with fail
    refine bodyPost_ret (v := .tuple #[.agg #[.int .i64 x.root, .int .i64 x.size], .bool true]) (by rw [results_cell_tmp rfl]; go_simp) rfl ⟨by unfold RetSf; rw [hxn.out]; rfl, J.out⟩
end Go.Proofs.YtnmcgmpmcliinaaGreat
