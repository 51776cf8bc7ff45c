/-
  SetLA, PoolY, PoolZ, PoolV in one text. Nothing here is trusted.
-/
import Derived.Test.YtnmcgmpmcliinaaGreatPart33
import Derived.Test.YtnmcgmpmcliinaaGreatPart14
import Derived.Deep.RegionHeld3
set_option linter.unusedVariables false
namespace Go.Proofs.YtnmcgmpmcliinaaGreat
open Go.RowKit
def RetSome (e : Ending) : Prop := ∃ (e' N : Int) (ya : Option Addr) (yn yc : Nat) (y : Option Addr) (ln lc : Nat), e = .returned (.agg #[.int .i64 e', .int .i64 N, .slice ya yn yc, .slice y ln lc])
abbrev putQ (w : World) (b : Nat) (e' N : Int) (ya : Option Addr) (yn yc : Nat) (y : Option Addr) (ln lc : Nat) : World := (((w.setCell ⟨b, 0, none⟩ (.int .i64 e')).setCell ⟨b, 1, none⟩ (.int .i64 N)).setCell ⟨b, 2, none⟩ (.slice ya yn yc)).setCell ⟨b, 3, none⟩ (.slice y ln lc)
theorem kept_putQ (w : World) (b : Nat) (e' N : Int) (ya : Option Addr) (yn yc : Nat) (y : Option Addr) (ln lc : Nat) : Kept b w (putQ w b e' N ya yn yc y ln lc) := Kept.setCell (g := b) (Kept.setCell (g := b) (Kept.setCell (g := b) (Kept.setCell (g := b) (Kept.refl _ _) (p := ⟨b, 0, none⟩) rfl _) (p := ⟨b, 1, none⟩) rfl _) (p := ⟨b, 2, none⟩) rfl _) (p := ⟨b, 3, none⟩) rfl _
theorem cells_putQ {w : World} {b : Nat} {c0 c1 c2 c3 : Value} (h : CellsAt w b #[c0, c1, c2, c3] 34) (e' N : Int) (ya : Option Addr) (yn yc : Nat) (y : Option Addr) (ln lc : Nat) : CellsAt (putQ w b e' N ya yn yc y ln lc) b #[.int .i64 e', .int .i64 N, .slice ya yn yc, .slice y ln lc] 34 := by
  have k2 := (((h.set 0 (.int .i64 e')).set 1 (.int .i64 N)).set 2 (.slice ya yn yc)).set 3 (.slice y ln lc)
  simp only [List.setIfInBounds_toArray, List.set_cons_zero, List.set_cons_succ] at k2
  exact k2
set_option maxHeartbeats 4000000 in
set_option maxRecDepth 100000 in
theorem read_all (Q : Nat → Prop) (sa : Option Addr) (n sc : Nat) (B : Nat → Blk) (key : Int) (v : SetV) (x : SetE) (a : AskE) (ba : Option Addr) (bn bc : Nat) (w : World) (hs : StoreAt w sa n B) (hX : SetAt Q w v x) (hx : SetOk n B key x) :
    Calls Tryz.prog 137 #[.agg #[.slice sa n sc], .int .i64 key, v.val, a.val ba bn bc] w fun e w' => RetSome e ∧ Below w.heap.size w w' := by
  have hlb := lb_enter w sa n sc v a ba bn bc
  unfold enterL at hlb
  replace hlb := hid hlb
  have ho := hid hx.files.order
  have hvn : v.fn ≤ 6 := by rw [← hX.files.1]; exact hx.files.few
  unfold AskE.val SetV.val
  replace hs := hid hs
  replace hX := hid hX
  replace hx := hid hx
  go_enter Tryz.func137, Tryz.ntmps137
  go_wp2_with fail
  generalize (((w.alloc (.cells #[.slice sa n sc] 24)).alloc (.cells #[.string v.name, .slice v.fa v.fn v.fc, .slice v.sa v.sn v.sc] 47)).alloc (.cells #[.int .i64 a.kind, .string a.set, .string a.file, .string a.to, .int .i64 a.pos, .int .i64 a.num, .slice ba bn bc] 30)).alloc (.cells #[.int .i64 0, .int .i64 0, .slice none 0 0, .slice none 0 0] 34) = w0 at *
  refine (findE_any Q v.fa v.fn v.fc x.files a.file w0 (by omega) (hX.out.files.below hlb.out.bel) ho.out).mono ?_
  rintro e w1 ⟨⟨p, b, rfl, hF⟩, b1⟩
  replace hlb := hid (hlb.out.below b1)
  clear b1
  have q0 := hlb.out.r8.cell 0
  have q1 := hlb.out.r8.cell 1
  have q2 := hlb.out.r8.cell 2
  have q3 := hlb.out.r8.cell 3
  have z0 := hlb.out.r8.frozen 0
  have z1 := hlb.out.r8.frozen 1
  have z2 := hlb.out.r8.frozen 2
  have z3 := hlb.out.r8.frozen 3
  simp at q0 q1 q2 q3
  cases b
  · clear hF
    go_wp2_with fail
    refine bodyPost_ret (v := .agg #[.int .i64 5, .int .i64 0, .slice none 0 0, .slice none 0 0]) ?_ rfl ?_
    · exact results_cell_row rfl _ _ (w.heap.size + 1 + 1 + 1) _ _ _ _ rfl (cells_putQ hlb.out.r8 5 0 none 0 0 none 0 0) Tryz.underlying34 rfl (by kernel_rfl)
    · exact ⟨⟨_, _, _, _, _, _, _, _, rfl⟩, hlb.out.bel.trans ((kept_putQ _ _ _ _ _ _ _ _ _ _).below (by omega))⟩
  · obtain ⟨hp, hpx⟩ := found_at hF
    clear hpx hF q0 q1 q2 q3 z0 z1 z2 z3
    have hXe := hX.out.files.below hlb.out.bel
    have hpv : p < v.fn := by rw [← hXe.1]; exact hp
    obtain ⟨fb, fo, hfb⟩ : ∃ b off, v.fa = some ⟨b, off, none⟩ := by
      obtain ⟨b, off, e, _⟩ := hXe.2.2 (by omega)
      exact ⟨b, off, e⟩
    rw [hfb] at hXe
    have hA := hXe.ent hpv
    generalize x.files.getD p Ent.zero = f at *
    have c1 := hA.c1
    have c2 := hA.c2
    have x1 := hlb.out.bX.cell 1
    have s0 := hlb.out.bS.cell 0
    have a4 := hlb.out.bA.cell 4
    have a5 := hlb.out.bA.cell 5
    simp at x1 s0 a4 a5
    rw [hfb] at x1
    have lS := hlb.out.bS.lt
    have lA := hlb.out.bA.lt
    have n1 := Nat.ne_of_lt lS
    have n2 := Nat.ne_of_lt lA
    have n1' := n1.symm
    have n2' := n2.symm
    replace hfb := hid hfb
    clear hA hXe hp
    go_wp2_with fail
    have ba1 := below_alloc w1 (.cells #[.int .i64 f.root, .int .i64 f.size] 60)
    have kf := hid (cellsAt_alloc w1 #[.int .i64 f.root, .int .i64 f.size] 60)
    replace hlb := hid (hlb.out.below ba1)
    clear c1 c2 x1 s0 a4 a5 lS lA n1 n2 n1' n2' ba1
    generalize hW2 : w1.alloc (.cells #[.int .i64 f.root, .int .i64 f.size] 60) = w2 at *
    replace hW2 := hid hW2
    refine (fileRead_any sa n sc B key f.root f.size a.pos a.num w2 (hs.out.below hlb.out.bel)).mono ?_
    rintro e w3 ⟨hR, b3⟩
    replace kf := hid (kf.out.below b3)
    replace hlb := hid (hlb.out.below b3)
    have f1 := kf.out.cell 1
    have q0 := hlb.out.r8.cell 0
    have q1 := hlb.out.r8.cell 1
    have q2 := hlb.out.r8.cell 2
    have q3 := hlb.out.r8.cell 3
    have z0 := hlb.out.r8.frozen 0
    have z1 := hlb.out.r8.frozen 1
    have z2 := hlb.out.r8.frozen 2
    have z3 := hlb.out.r8.frozen 3
    simp at f1 q0 q1 q2 q3
    rcases hR with ⟨e', rfl, he, _⟩ | ⟨y, ln, lc, rfl, _, _, _⟩
    · have he' : (e' == 0) = false := by simp [he]
      go_wp2_with fail
      refine bodyPost_ret (v := .agg #[.int .i64 e', .int .i64 0, .slice none 0 0, .slice none 0 0]) ?_ rfl ?_
      · exact results_cell_row rfl _ _ (w.heap.size + 1 + 1 + 1) _ _ _ _ rfl (cells_putQ hlb.out.r8 e' 0 none 0 0 none 0 0) Tryz.underlying34 rfl (by kernel_rfl)
      · exact ⟨⟨_, _, _, _, _, _, _, _, rfl⟩, hlb.out.bel.trans ((kept_putQ _ _ _ _ _ _ _ _ _ _).below (by omega))⟩
    · go_wp2_with fail
      refine bodyPost_ret (v := .agg #[.int .i64 0, .int .i64 f.size, .slice none 0 0, .slice y ln lc]) ?_ rfl ?_
      · exact results_cell_row rfl _ _ (w.heap.size + 1 + 1 + 1) _ _ _ _ rfl (cells_putQ hlb.out.r8 0 f.size none 0 0 y ln lc) Tryz.underlying34 rfl (by kernel_rfl)
      · exact ⟨⟨_, _, _, _, _, _, _, _, rfl⟩, hlb.out.bel.trans ((kept_putQ _ _ _ _ _ _ _ _ _ _).below (by omega))⟩
def RetLk (a : AskE) (e : Ending) : Prop := ∃ (e1 N : Int) (ya : Option Addr) (yn yc : Nat) (y : Option Addr) (ln lc : Nat) (e' : Int), e = .returned (.tuple #[.agg #[.int .i64 e1, .int .i64 N, .slice ya yn yc, .slice y ln lc], .int .i64 e']) ∧ ((a.kind = 11 ∨ a.kind = 12) → e' = 0)
set_option maxHeartbeats 4000000 in
set_option maxRecDepth 100000 in
theorem look_all (Q : Nat → Prop) (sa : Option Addr) (n sc : Nat) (B : Nat → Blk) (key : Int) (v : SetV) (x : SetE) (a : AskE) (ba : Option Addr) (bn bc : Nat) (w : World) (hs : StoreAt w sa n B) (hX : SetAt Q w v x) (hx : SetOk n B key x) :
    Calls Tryz.prog 99 #[.agg #[.slice sa n sc], .int .i64 key, v.val, a.val ba bn bc] w fun e w' => RetLk a e ∧ Below w.heap.size w w' := by
  have hlb := lb_enter w sa n sc v a ba bn bc
  unfold enterL at hlb
  replace hlb := hid hlb
  unfold AskE.val SetV.val
  replace hs := hid hs
  replace hX := hid hX
  replace hx := hid hx
  go_enter Tryz.func99, Tryz.ntmps99
  go_wp2_with fail
  generalize (((w.alloc (.cells #[.slice sa n sc] 24)).alloc (.cells #[.string v.name, .slice v.fa v.fn v.fc, .slice v.sa v.sn v.sc] 47)).alloc (.cells #[.int .i64 a.kind, .string a.set, .string a.file, .string a.to, .int .i64 a.pos, .int .i64 a.num, .slice ba bn bc] 30)).alloc (.cells #[.int .i64 0, .int .i64 0, .slice none 0 0, .slice none 0 0] 34) = w0 at *
  refine (setCheck_any Q sa n sc B key v x w0 (hs.out.below hlb.out.bel) (hX.out.below hlb.out.bel)).mono ?_
  rintro e w1 ⟨⟨e', rfl, he⟩, b1⟩
  obtain rfl : e' = 0 := he.2 hx.out
  replace hlb := hid (hlb.out.below b1)
  clear he b1
  have s0 := hlb.out.bS.cell 0
  have x0 := hlb.out.bX.cell 0
  have x1 := hlb.out.bX.cell 1
  have x2 := hlb.out.bX.cell 2
  have a0 := hlb.out.bA.cell 0
  have a1 := hlb.out.bA.cell 1
  have a2 := hlb.out.bA.cell 2
  have a3 := hlb.out.bA.cell 3
  have a4 := hlb.out.bA.cell 4
  have a5 := hlb.out.bA.cell 5
  have a6 := hlb.out.bA.cell 6
  simp at s0 x0 x1 x2 a0 a1 a2 a3 a4 a5 a6
  by_cases hk : a.kind = 11
  · have hk' : (a.kind == 11) = true := by simp [hk]
    replace hk := hid hk
    go_wp2_with fail
    refine (read_all Q sa n sc B key v x a ba bn bc w1 (hs.out.below hlb.out.bel) (hX.out.below hlb.out.bel) hx.out).mono ?_
    rintro e w2 ⟨⟨e1, N, ya, yn, yc, y, ln, lc, rfl⟩, b2⟩
    replace hlb := hid (hlb.out.below b2)
    have q0 := hlb.out.r8.cell 0
    have q1 := hlb.out.r8.cell 1
    have q2 := hlb.out.r8.cell 2
    have q3 := hlb.out.r8.cell 3
    have z0 := hlb.out.r8.frozen 0
    have z1 := hlb.out.r8.frozen 1
    have z2 := hlb.out.r8.frozen 2
    have z3 := hlb.out.r8.frozen 3
    simp at q0 q1 q2 q3
    clear b2 s0 x0 x1 x2 a0 a1 a2 a3 a4 a5 a6
    go_wp2_with fail
    refine bodyPost_ret (v := .tuple #[.agg #[.int .i64 e1, .int .i64 N, .slice ya yn yc, .slice y ln lc], .int .i64 0]) (by rw [results_cell_tmp rfl]; go_simp) rfl ?_
    exact ⟨⟨_, _, _, _, _, _, _, _, _, rfl, fun _ => rfl⟩, hlb.out.bel.trans ((kept_putQ w2 (w.heap.size + 1 + 1 + 1) e1 N ya yn yc y ln lc).below (by omega))⟩
  · have hk' : (a.kind == 11) = false := by simp [hk]
    by_cases hk2 : a.kind = 12
    · have hk2' : (a.kind == 12) = true := by simp [hk2]
      replace hk2 := hid hk2
      replace hk := hid hk
      go_wp2_with fail
      refine (list_any Q v x w1 (hX.out.below hlb.out.bel) hx.out.files.few).mono ?_
      rintro e w2 ⟨⟨N, y, ln, lc, rfl⟩, b2⟩
      replace hlb := hid (hlb.out.below b2)
      have q0 := hlb.out.r8.cell 0
      have q1 := hlb.out.r8.cell 1
      have q2 := hlb.out.r8.cell 2
      have q3 := hlb.out.r8.cell 3
      have z0 := hlb.out.r8.frozen 0
      have z1 := hlb.out.r8.frozen 1
      have z2 := hlb.out.r8.frozen 2
      have z3 := hlb.out.r8.frozen 3
      simp at q0 q1 q2 q3
      clear b2 s0 x0 x1 x2 a0 a1 a2 a3 a4 a5 a6
      go_wp2_with fail
      refine bodyPost_ret (v := .tuple #[.agg #[.int .i64 0, .int .i64 N, .slice y ln lc, .slice none 0 0], .int .i64 0]) (by rw [results_cell_tmp rfl]; go_simp) rfl ?_
      exact ⟨⟨_, _, _, _, _, _, _, _, _, rfl, fun _ => rfl⟩, hlb.out.bel.trans ((kept_putQ w2 (w.heap.size + 1 + 1 + 1) 0 N y ln lc none 0 0).below (by omega))⟩
    · have hk2' : (a.kind == 12) = false := by simp [hk2]
      have q0 := hlb.out.r8.cell 0
      have q1 := hlb.out.r8.cell 1
      have q2 := hlb.out.r8.cell 2
      have q3 := hlb.out.r8.cell 3
      have z0 := hlb.out.r8.frozen 0
      have z1 := hlb.out.r8.frozen 1
      have z2 := hlb.out.r8.frozen 2
      have z3 := hlb.out.r8.frozen 3
      simp at q0 q1 q2 q3
      replace hk2 := hid hk2
      replace hk := hid hk
      go_wp2_with fail
      refine bodyPost_ret (v := .tuple #[.agg #[.int .i64 0, .int .i64 0, .slice none 0 0, .slice none 0 0], .int .i64 4]) (by rw [results_cell_tmp rfl]; go_simp) rfl ?_
      exact ⟨⟨_, _, _, _, _, _, _, _, _, rfl, fun f => absurd f (fun f => f.elim hk.out hk2.out)⟩, hlb.out.bel.trans ((kept_putQ w1 (w.heap.size + 1 + 1 + 1) 0 0 none 0 0 none 0 0).below (by omega))⟩
def RdIs (base : Nat) (w : World) (B : Nat → Blk) (key : Int) (x : SetE) (a : AskE) (e1 : Int) (y : Option Addr) (ln lc : Nat) : Prop :=
  ∀ f ∈ x.files, a.kind = 11 → f.nm = a.file.data.toList → ((0 ≤ a.pos ∧ a.pos ≤ 256) ∧ (0 ≤ a.num ∧ a.num ≤ 256)) → e1 = 0 ∧ ln ≤ lc ∧ NumsAt (fun b => base ≤ b) .u8 w y ln (readL (fileL key (leafAt B 3 f.root)) f.size.toNat a.pos.toNat a.num.toNat)
theorem RdIs.map {base base' : Nat} {w w' : World} {B : Nat → Blk} {key : Int} {x : SetE} {a : AskE} {e1 : Int} {y : Option Addr} {ln lc : Nat} (h : RdIs base w B key x a e1 y ln lc) (hm : ∀ l, NumsAt (fun b => base ≤ b) .u8 w y ln l → NumsAt (fun b => base' ≤ b) .u8 w' y ln l) : RdIs base' w' B key x a e1 y ln lc := fun f h1 h2 h3 h4 => by
  obtain ⟨g1, g2, g3⟩ := h f h1 h2 h3 h4
  exact ⟨g1, g2, hm _ g3⟩
theorem look_both (Q : Nat → Prop) (sa : Option Addr) (n sc : Nat) (B : Nat → Blk) (key : Int) (v : SetV) (x : SetE) (a : AskE) (ba : Option Addr) (bn bc : Nat) (w : World) (hs : StoreAt w sa n B) (hX : SetAt Q w v x) (hx : SetOk n B key x) :
    Calls Tryz.prog 99 #[.agg #[.slice sa n sc], .int .i64 key, v.val, a.val ba bn bc] w fun e w' => (∃ (e1 N : Int) (ya : Option Addr) (yn yc : Nat) (y : Option Addr) (ln lc : Nat) (e' : Int), e = .returned (.tuple #[.agg #[.int .i64 e1, .int .i64 N, .slice ya yn yc, .slice y ln lc], .int .i64 e']) ∧ ((a.kind = 11 ∨ a.kind = 12) → e' = 0) ∧ RdIs w.heap.size w' B key x a e1 y ln lc) ∧ Below w.heap.size w w' := by
  by_cases hr : ∃ f ∈ x.files, a.kind = 11 ∧ f.nm = a.file.data.toList ∧ ((0 ≤ a.pos ∧ a.pos ≤ 256) ∧ (0 ≤ a.num ∧ a.num ≤ 256))
  · obtain ⟨f, hf, hk, hfn, hrg⟩ := hr
    refine (look_read Q sa n sc B key v x a ba bn bc f w hs hX hx hk hf hfn hrg).mono fun e w' ⟨⟨y, ln, lc, h1, h2, h3⟩, b⟩ => ⟨⟨0, f.size, none, 0, 0, y, ln, lc, 0, h1, fun _ => rfl, fun f' hf' _ hfn' _ => ?_⟩, b⟩
    have e2 : f' = f := ordered_one Ent.nm hx.shape.order hf' hf (hfn'.trans hfn.symm)
    subst e2
    exact ⟨rfl, h2, h3⟩
  · refine (look_all Q sa n sc B key v x a ba bn bc w hs hX hx).mono fun e w' ⟨⟨e1, N, ya, yn, yc, y, ln, lc, e', h1, h2⟩, b⟩ => ⟨⟨e1, N, ya, yn, yc, y, ln, lc, e', h1, h2, fun f hf hk hfn hrg => absurd ⟨f, hf, hk, hfn, hrg⟩ hr⟩, b⟩
end Go.Proofs.YtnmcgmpmcliinaaGreat

namespace Go.Proofs.YtnmcgmpmcliinaaGreat
open Go.RowKit
def RetPDo (H : Nat) (X : Nat → Prop) (w : World) (ob n : Nat) (B : Nat → Blk) (tb tn tc : Nat) (L : List TenM) (i : Nat) (m : TenM) (a : AskE) (e : Ending) (w' : World) : Prop :=
  ∃ (e1 N : Int) (ya : Option Addr) (yn yc : Nat) (y : Option Addr) (ln lc : Nat) (g' : Nat) (D : Nat → Blk) (L' : List TenM), e = .returned (.agg #[.int .i64 e1, .int .i64 N, .slice ya yn yc, .slice y ln lc]) ∧ Below H w w' ∧ Only (PM ob tb tn tc L) w w' ∧ PSt H X w' ob g' n D (some ⟨tb, 0, none⟩) tn tc L' ∧ DoCase n B (L.map TenM.e) i m.e a D (L'.map TenM.e) e1 N ∧ ∀ (k : Nat) (x : SetE), m.e.sets[k]? = some x → x.nm = a.set.data.toList → (a.kind = 11 ∨ a.kind = 12) → RdIs w.heap.size w' B m.key x a e1 y ln lc
abbrev objA (a : AskE) (ba : Option Addr) (bn bc : Nat) : Obj := .cells #[.int .i64 a.kind, .string a.set, .string a.file, .string a.to, .int .i64 a.pos, .int .i64 a.num, .slice ba bn bc] 30
abbrev objW : Obj := .cells #[.int .i64 0, .int .i64 0, .slice none 0 0, .slice none 0 0] 34
structure OB (W w : World) (a : AskE) (ba : Option Addr) (bn bc : Nat) : Prop where
  bel : Below W.heap.size W w
  bA : CellsAt w W.heap.size #[.int .i64 a.kind, .string a.set, .string a.file, .string a.to, .int .i64 a.pos, .int .i64 a.num, .slice ba bn bc] 30
  bR : CellsAt w (W.heap.size + 1) #[.int .i64 0, .int .i64 0, .slice none 0 0, .slice none 0 0] 34
theorem OB.below {W w w' : World} {a : AskE} {ba : Option Addr} {bn bc : Nat} (h : OB W w a ba bn bc) (b : Below w.heap.size w w') : OB W w' a ba bn bc := ⟨Below.tr h.bel b, h.bA.below b, h.bR.below b⟩
theorem ob_enter (w : World) (a : AskE) (ba : Option Addr) (bn bc : Nat) : OB w ((w.alloc (objA a ba bn bc)).alloc objW) a ba bn bc :=
  ⟨below_two w _ _, (cellsAt_alloc w _ _).below (below_alloc _ _), cellsAt_alloc2 w (objA a ba bn bc) _ _⟩
abbrev YB (X : Nat → Prop) (q : Nat) : Nat → Prop := fun b => X b ∨ b = q
theorem PSt.boxed {H : Nat} {X : Nat → Prop} {w w0 : World} {ob g n : Nat} {B : Nat → Blk} {ta : Option Addr} {tn tc : Nat} {L : List TenM} {a : AskE} {ba : Option Addr} {bn bc : Nat} (h : PSt H X w ob g n B ta tn tc L) (o : OB w w0 a ba bn bc) : PSt H (YB X (w.heap.size + 1)) w0 ob g n B ta tn tc L :=
  h.clear o.bel (fun b y => y.imp id (fun e => ⟨by omega, by rw [e]; exact o.bR.lt⟩)) (.inl h.hx)
theorem do_fin {H : Nat} {X : Nat → Prop} {w w1 : World} {ob g g' n tb tn tc i : Nat} {B D : Nat → Blk} {L L' : List TenM} {m : TenM} {a : AskE} {c0 c1 c2 c3 : Value} {e1 N : Int} {ya : Option Addr} {yn yc : Nat} {y : Option Addr} {ln lc : Nat} (h : PSt H X w ob g n B (some ⟨tb, 0, none⟩) tn tc L) (h1 : PSt H (YB X (w.heap.size + 1)) w1 ob g' n D (some ⟨tb, 0, none⟩) tn tc L') (hB : Below H w w1) (on : Only (PM ob tb tn tc L) w w1) (k : CellsAt w1 (w.heap.size + 1) #[c0, c1, c2, c3] 34) (hc : DoCase n B (L.map TenM.e) i m.e a D (L'.map TenM.e) e1 N)
    (hr : ∀ (k : Nat) (x : SetE), m.e.sets[k]? = some x → x.nm = a.set.data.toList → (a.kind = 11 ∨ a.kind = 12) → RdIs (w.heap.size + 2) w1 B m.key x a e1 y ln lc) :
    RetPDo H X w ob n B tb tn tc L i m a (.returned (.agg #[.int .i64 e1, .int .i64 N, .slice ya yn yc, .slice y ln lc])) (putQ w1 (w.heap.size + 1) e1 N ya yn yc y ln lc) := by
  have kk := kept_putQ w1 (w.heap.size + 1) e1 N ya yn yc y ln lc
  have hob := h.box.lt
  have hsz := h.mine.sz
  refine ⟨e1, N, ya, yn, yc, y, ln, lc, g', D, L', rfl, hB.trans (kk.below (by omega)), on.trans2 (Only.of_kept (M := fun b => b = w.heap.size + 1) kk rfl) (fun q hq e => by omega), (h1.kept kk (.inr rfl) (by omega)).clear (Below.refl _ _) (fun b x => .inl (.inl x)) h.hx, hc, fun k x h1 h2 h3 => (hr k x h1 h2 h3).map fun l hl => (hl.kept (g := w.heap.size + 1) (fun b hb => by omega) kk).weaken (fun b _ q => by omega)⟩
theorem empty_set {Q : Nat → Prop} {w : World} {nm : ByteArray} (h : nm.size ≤ maxLen) : SetAt Q w ⟨nm, none, 0, 0, none, 0, 0⟩ ⟨nm, [], []⟩ := by
  refine ⟨rfl, h, ?_, ?_, ?_⟩
  · first | exact entsAt_nil _ _ _ | exact ⟨rfl, fun x hx => by simp at hx, fun hp => absurd hp (by omega)⟩
  · first | exact snapsAt_nil _ _ _ | exact ⟨rfl, fun x hx => by simp at hx, fun hp => absurd hp (by omega)⟩ | exact ⟨rfl, fun hp => absurd hp (by omega)⟩
  · first | exact ⟨Nat.le_refl _, Nat.le_refl _⟩ | simp
theorem map_set_e (L : List TenM) (i : Nat) (m : TenM) : (L.set i m).map TenM.e = (L.map TenM.e).set i m.e := List.map_set
set_option maxHeartbeats 4000000 in
set_option maxRecDepth 100000 in
theorem poolMk_any (H : Nat) (X : Nat → Prop) (ob g n : Nat) (B : Nat → Blk) (tb tn tc : Nat) (L : List TenM) (i : Nat) (m : TenM) (a : AskE) (ba : Option Addr) (bn bc : Nat) (w : World) (h : PSt H X w ob g n B (some ⟨tb, 0, none⟩) tn tc L) (hm : L[i]? = some m) (hok : PoolOk n B (L.map TenM.e)) (hao : a.ok) (hk : a.kind = 1) :
    Calls Tryz.prog 23 #[.pointer (some ⟨ob, 0, none⟩), .pointer (some ⟨tb, i * 3, none⟩), .agg #[.int .i64 a.kind, .string a.set, .string a.file, .string a.to, .int .i64 a.pos, .int .i64 a.num, .slice ba bn bc]] w fun e w' => RetPDo H X w ob n B tb tn tc L i m a e w' := by
  have hob := ob_enter w a ba bn bc
  have hmT : m.e ∈ L.map TenM.e := List.mem_map.2 ⟨m, List.mem_of_getElem? hm, rfl⟩
  have hT := hok.tens _ hmT
  have hml : (m.ms.map (·.x)).length = m.sn := (h.sets hm).1
  have h3 : m.sn ≤ 3 := by have := hT.few; rw [← hml]; exact this
  have ho : (m.ms.map (·.x)).Pairwise fun a b => a.nm < b.nm := hT.order
  have h0 := hid (h.boxed hob)
  have hka : (a.kind == 1) = true := by simp [hk]
  unfold objA objW at hob
  replace hob := hid hob
  replace h := hid h
  replace hk := hid hk
  replace ho := hid ho
  replace hml := hid hml
  replace hm := hid hm
  clear hT hmT
  go_enter Tryz.func23, Tryz.ntmps23
  go_upto_region 1 with fail
  generalize (w.alloc (.cells #[.int .i64 a.kind, .string a.set, .string a.file, .string a.to, .int .i64 a.pos, .int .i64 a.num, .slice ba bn bc] 30)).alloc (.cells #[.int .i64 0, .int .i64 0, .slice none 0 0, .slice none 0 0] 34) = w0 at *
  have a0 := hob.out.bA.cell 0
  have a1 := hob.out.bA.cell 1
  simp only [List.getElem?_toArray, List.getElem?_cons_zero, List.getElem?_cons_succ] at a0 a1
  go_wp2_with fail
  refine (poolAdd_any H (YB X (w.heap.size + 1)) ob g n B tb tn tc L i m ⟨a.set, none, 0, 0, none, 0, 0⟩ ⟨a.set, [], []⟩ w0 h0.out hm.out ho.out h3 (empty_set hao.1.1)).mono ?_
  have hH := h.out.mine.sz
  rintro e w1 (⟨e', rfl, he, b1, hno⟩ | ⟨rfl, hNm, hlt3, bH, a', c', p, hF, hPS, on, hR⟩)
  · have hob1 := hob.out.below b1
    have q0 := hob1.bR.cell 0
    have q1 := hob1.bR.cell 1
    have q2 := hob1.bR.cell 2
    have q3 := hob1.bR.cell 3
    have z0 := hob1.bR.frozen 0
    have z1 := hob1.bR.frozen 1
    have z2 := hob1.bR.frozen 2
    have z3 := hob1.bR.frozen 3
    simp only [List.getElem?_toArray, List.getElem?_cons_zero, List.getElem?_cons_succ] at q0 q1 q2 q3
    replace hno := hid hno
    replace b1 := hid b1
    replace hob1 := hid hob1
    clear a0 a1
    go_wp2_with fail
    refine bodyPost_ret (v := .agg #[.int .i64 e', .int .i64 0, .slice none 0 0, .slice none 0 0]) (results_cell_row rfl _ _ (w.heap.size + 1) _ _ _ _ rfl (cells_putQ hob1.out.bR e' 0 none 0 0 none 0 0) Tryz.underlying34 rfl (by kernel_rfl)) rfl ?_
    exact do_fin h.out (h0.out.below b1.out) ((Below.tr hob.out.bel b1.out).mono hH) ((Only.of_below hob.out.bel).trans (Only.of_below b1.out)) hob1.out.bR (.noadd e' hk.out he hno.out) (fun _ _ _ _ f => by have := hk.out; omega)
  · have hnr : ¬ RowsP (.slice (some ⟨tb, 0, none⟩) tn tc) L tn (w.heap.size + 1) := fun f => by have := (h.out.mine.ge f).2; omega
    have kR := on.cells hob.out.bR hnr
    have q0 := kR.cell 0
    have q1 := kR.cell 1
    have q2 := kR.cell 2
    have q3 := kR.cell 3
    have z0 := kR.frozen 0
    have z1 := kR.frozen 1
    have z2 := kR.frozen 2
    have z3 := kR.frozen 3
    simp only [List.getElem?_toArray, List.getElem?_cons_zero, List.getElem?_cons_succ] at q0 q1 q2 q3
    replace hPS := hid hPS
    replace on := hid on
    replace hF := hid hF
    replace bH := hid bH
    replace kR := hid kR
    clear a0 a1 hR hnr
    go_wp2_with fail
    refine bodyPost_ret (v := .agg #[.int .i64 0, .int .i64 0, .slice none 0 0, .slice none 0 0]) (results_cell_row rfl _ _ (w.heap.size + 1) _ _ _ _ rfl (cells_putQ kR.out 0 0 none 0 0 none 0 0) Tryz.underlying34 rfl (by kernel_rfl)) rfl ?_
    refine do_fin h.out hPS.out ((hob.out.bel.mono hH).trans bH.out) ((Only.of_below hob.out.bel).trans (on.out.mono (fun b _ q => .inr q))) kR.out ?_ (fun _ _ _ _ f => by have := hk.out; omega)
    rw [map_set_e]
    have e : TenM.e { m with sa := a', sn := m.sn + 1, sc := c', ms := m.ms.take p ++ ⟨⟨a.set, none, 0, 0, none, 0, 0⟩, ⟨a.set, [], []⟩⟩ :: m.ms.drop p } = ⟨m.e.key, m.e.quota, m.e.sets.take p ++ ⟨a.set, [], []⟩ :: m.e.sets.drop p⟩ := by
      simp [TenM.e, List.map_take, List.map_drop]
    rw [e]
    exact .add p hk.out hNm (by show (m.ms.map (·.x)).length < 3; rw [hml.out]; exact hlt3) hF.out
end Go.Proofs.YtnmcgmpmcliinaaGreat

namespace Go.Proofs.YtnmcgmpmcliinaaGreat
open Go.RowKit
set_option maxHeartbeats 4000000 in
set_option maxRecDepth 100000 in
theorem doUses_any (H : Nat) (X : Nat → Prop) (ob g n : Nat) (B : Nat → Blk) (tb tn tc : Nat) (L : List TenM) (i : Nat) (m : TenM) (a : AskE) (ba : Option Addr) (bn bc : Nat) (w : World) (h : PSt H X w ob g n B (some ⟨tb, 0, none⟩) tn tc L) (hm : L[i]? = some m) (hok : PoolOk n B (L.map TenM.e)) (hao : a.ok) (hB : NumsAt (fun _ => True) .u8 w ba bn a.bytes) (hk : a.kind = 13) :
    Calls Tryz.prog 23 #[.pointer (some ⟨ob, 0, none⟩), .pointer (some ⟨tb, i * 3, none⟩), .agg #[.int .i64 a.kind, .string a.set, .string a.file, .string a.to, .int .i64 a.pos, .int .i64 a.num, .slice ba bn bc]] w fun e w' => RetPDo H X w ob n B tb tn tc L i m a e w' := by
  have hob := ob_enter w a ba bn bc
  have hmT : m.e ∈ L.map TenM.e := List.mem_map.2 ⟨m, List.mem_of_getElem? hm, rfl⟩
  have hmI : (L.map TenM.e)[i]? = some m.e := by rw [List.getElem?_map, hm]; rfl
  have hT := hok.tens _ hmT
  have hml : (m.ms.map (·.x)).length = m.sn := (h.sets hm).1
  have h3 : m.sn ≤ 3 := by have := hT.few; rw [← hml]; exact this
  have ho : (m.ms.map (·.x)).Pairwise fun a b => a.nm < b.nm := hT.order
  have hH := h.mine.sz
  have hby : Hid (Bytes a.bytes) := hid hB.bytes
  have h0 := hid (h.boxed hob)
  obtain ⟨hi, hmi⟩ := List.getElem?_eq_some_iff.1 hm
  have hl := h.mine.len
  have hcaps := row_caps (h.mine.own i m hm (by omega))
  have hnm := h.mine.nums m (List.mem_of_getElem? hm)
  unfold objA objW at hob
  replace hob := hid hob
  replace h := hid h
  replace ho := hid ho
  replace hml := hid hml
  replace hm := hid hm
  replace hT := hid hT
  replace hok := hid hok
  replace hmI := hid hmI
  replace hB := hid hB
  replace hmi := hid hmi
  replace hl := hid hl
  replace hi := hid hi
  replace hcaps := hid hcaps
  replace hnm := hid hnm
  clear hmT
  have hka : (a.kind == 1) = false := by simp [hk]
  have hkb : (a.kind == 13) = true := by simp [hk]
  replace hk := hid hk
  go_enter Tryz.func23, Tryz.ntmps23
  go_upto_region 1 with fail
  generalize (w.alloc (.cells #[.int .i64 a.kind, .string a.set, .string a.file, .string a.to, .int .i64 a.pos, .int .i64 a.num, .slice ba bn bc] 30)).alloc (.cells #[.int .i64 0, .int .i64 0, .slice none 0 0, .slice none 0 0] 34) = w0 at *
  have a0 := hob.out.bA.cell 0
  have a1 := hob.out.bA.cell 1
  simp only [List.getElem?_toArray, List.getElem?_cons_zero, List.getElem?_cons_succ] at a0 a1
  have o0 := h0.out.box.cell 0
  simp at o0
  have lo := h0.out.box.lt
  obtain ⟨t0, t1, t2, tf, lt⟩ := h0.out.ten hm.out
  have la := hob.out.bA.lt
  have n0 : ob ≠ w.heap.size + 1 := by have := h.out.box.lt; omega
  have n0' := n0.symm
  have n1 : tb ≠ w.heap.size + 1 := by have := (h.out.mine.row.lt tb rfl).2; omega
  have n1' := n1.symm
  have n2 : w.heap.size ≠ w.heap.size + 1 := by omega
  have n2' := n2.symm
  obtain ⟨SL, hSL⟩ : ∃ SL, SL = m.ms.map (·.x) := ⟨_, rfl⟩
  have hTok : Hid (TenOk n B ⟨m.key, m.quota, SL⟩) := hid (by rw [hSL]; exact hT.out)
  have hst : Hid (StoreAt w0.drew (some ⟨g, 0, none⟩) n B) := hid (h0.out.own.store.below (below_drew _ _))
  have hTen : Hid (TenAt (fun _ => True) w0.drew ⟨m.key, m.quota, SL⟩ m.sa m.sn m.sc) := hid ⟨by rw [hSL]; exact (h0.out.sets hm.out).below (below_drew _ _), hnm.out.1, hnm.out.2, hcaps.out⟩
  replace hSL := hid hSL
  have hbel : Hid (∀ w', Below w0.heap.size w0 w' → OB w w' a ba bn bc) := hid (fun w' b => hob.out.below b)
  go_upto_region 5 with fail
  go_region_held3 (fun w' => w'.cell? ⟨ob, 0, none⟩ = some (.slice (some ⟨g, 0, none⟩) n n) ∧ w'.cell? ⟨tb, i * 3, none⟩ = some (.int .i64 m.key) ∧ w'.cell? ⟨tb, i * 3 + 1, none⟩ = some (.int .i64 m.quota) ∧ w'.cell? ⟨tb, i * 3 + 2, none⟩ = some (.slice m.sa m.sn m.sc)) (first | go_keep | assumption) (first | (go_at_call 28; refine Calls.mono (poolReach_any (fun _ => True) (some ⟨g, 0, none⟩) n n B ⟨m.key, m.quota, SL⟩ m.sa m.sn m.sc _ hst.out hTen.out hok.out.right hTok.out) ?_; rintro e w8 ⟨⟨xa, xn, xc, xl, rfl, hN8, hRi, hmem⟩, b8⟩; replace b8 : Below w0.heap.size w0 w8 := (below_drew _ _).trans b8; have s0 := (b8.cell (p := ⟨ob, 0, none⟩) lo).trans o0; have s1 := (b8.cell (p := ⟨tb, i * 3, none⟩) lt).trans t0; have s2 := (b8.cell (p := ⟨tb, i * 3 + 1, none⟩) lt).trans t1; have s3 := (b8.cell (p := ⟨tb, i * 3 + 2, none⟩) lt).trans t2; have hob8 := hbel.out w8 b8; have q0 := hob8.bR.cell 0; have q1 := hob8.bR.cell 1; have q2 := hob8.bR.cell 2; have q3 := hob8.bR.cell 3; have z0 := hob8.bR.frozen 0; have z1 := hob8.bR.frozen 1; have z2 := hob8.bR.frozen 2; have z3 := hob8.bR.frozen 3; simp only [List.getElem?_toArray, List.getElem?_cons_zero, List.getElem?_cons_succ] at q0 q1 q2 q3; replace hN8 := hid hN8; replace hRi := hid hRi; replace hmem := hid hmem; replace hob8 := hid hob8; replace b8 := hid b8))
  all_goals (
    have hxl := hid hN8.out.1
    go_wp2_with fail
    refine bodyPost_ret (v := .agg #[.int .i64 0, .int .i64 xn, .slice none 0 0, .slice none 0 0]) (results_cell_row rfl _ _ (w.heap.size + 1) _ _ _ _ rfl (cells_putQ hob8.out.bR 0 xn none 0 0 none 0 0) Tryz.underlying34 rfl (by kernel_rfl)) rfl ?_
    exact do_fin h.out (h0.out.below b8.out) (hob8.out.bel.mono hH) (Only.of_below hob8.out.bel) hob8.out.bR (.uses (xn : Int) hk.out ⟨xl, hRi.out, by have := hmem.out; rw [hSL.out] at this; exact this, by rw [hxl.out]⟩) (fun _ _ _ _ f => by have := hk.out; omega))
end Go.Proofs.YtnmcgmpmcliinaaGreat

namespace Go.Proofs.YtnmcgmpmcliinaaGreat
open Go.RowKit
def GotLk (W wc : World) (B : Nat → Blk) (key : Int) (x : SetE) (a : AskE) (v9 v10 : Value) : Prop := ∃ (a9 : Nat) (e1 N : Int) (ya : Option Addr) (yn yc : Nat) (y : Option Addr) (ln lc : Nat) (e' : Int), v9 = .pointer (some ⟨a9, 0, none⟩) ∧ v10 = .int .i64 e' ∧ CellsAt wc a9 #[.int .i64 e1, .int .i64 N, .slice ya yn yc, .slice y ln lc] 34 ∧ Below W.heap.size W wc ∧ W.heap.size ≤ a9 ∧ ((a.kind = 11 ∨ a.kind = 12) → e' = 0) ∧ RdIs W.heap.size wc B key x a e1 y ln lc
theorem gotLk_ca {W w6 : World} {B : Nat → Blk} {key : Int} {x : SetE} {a : AskE} {e1 N : Int} {ya : Option Addr} {yn yc : Nat} {y : Option Addr} {ln lc : Nat} {e' : Int} {base : Nat} (bb : Below W.heap.size W w6) (h0 : (a.kind = 11 ∨ a.kind = 12) → e' = 0) (hr : RdIs base w6 B key x a e1 y ln lc) (hb : W.heap.size ≤ base) : GotLk W (w6.alloc (.cells #[.int .i64 e1, .int .i64 N, .slice ya yn yc, .slice y ln lc] 34)) B key x a (.pointer (some ⟨w6.heap.size, 0, none⟩)) (.int .i64 e') :=
  ⟨_, e1, N, ya, yn, yc, y, ln, lc, e', rfl, rfl, cellsAt_alloc w6 _ _, Below.tr bb (below_alloc _ _), bb.size, h0, hr.map fun l h => (h.below (below_alloc _ _)).weaken (fun b _ q => by omega)⟩
theorem gotLk_ac {W w6 : World} {B : Nat → Blk} {key : Int} {x : SetE} {a : AskE} {e1 N : Int} {ya : Option Addr} {yn yc : Nat} {y : Option Addr} {ln lc : Nat} {e' : Int} {g base : Nat} {c0 c1 c2 c3 : Value} (ka : CellsAt w6 g #[c0, c1, c2, c3] 34) (ha : W.heap.size ≤ g) (hgb : g < base) (bb : Below W.heap.size W w6) (h0 : (a.kind = 11 ∨ a.kind = 12) → e' = 0) (hr : RdIs base w6 B key x a e1 y ln lc) : GotLk W (putQ w6 g e1 N ya yn yc y ln lc) B key x a (.pointer (some ⟨g, 0, none⟩)) (.int .i64 e') :=
  ⟨g, e1, N, ya, yn, yc, y, ln, lc, e', rfl, rfl, cells_putQ ka e1 N ya yn yc y ln lc, bb.trans ((kept_putQ _ _ _ _ _ _ _ _ _ _).below ha), ha, h0, hr.map fun l h => (h.kept (g := g) (fun b hb => by omega) (kept_putQ _ _ _ _ _ _ _ _ _ _)).weaken (fun b _ q => by omega)⟩
abbrev obj0Q : Obj := .cells #[.int .i64 0, .int .i64 0, .slice none 0 0, .slice none 0 0] 34
abbrev enterK (w : World) (sa : Option Addr) (n sc : Nat) (key quota : Int) (ta : Option Addr) (tn tc : Nat) (a : AskE) (ba : Option Addr) (bn bc : Nat) : World :=
  (((w.alloc (.cells #[.slice sa n sc] 24)).alloc (.cells #[.int .i64 key, .int .i64 quota, .slice ta tn tc] 42)).alloc (.cells #[.int .i64 a.kind, .string a.set, .string a.file, .string a.to, .int .i64 a.pos, .int .i64 a.num, .slice ba bn bc] 30)).alloc obj0Q
structure KB (W wr : World) (sa : Option Addr) (n sc : Nat) (key quota : Int) (ta : Option Addr) (tn tc : Nat) (a : AskE) (ba : Option Addr) (bn bc : Nat) : Prop where
  bel : Below W.heap.size W wr
  bS : CellsAt wr W.heap.size #[.slice sa n sc] 24
  bT : CellsAt wr (W.heap.size + 1) #[.int .i64 key, .int .i64 quota, .slice ta tn tc] 42
  bA : CellsAt wr (W.heap.size + 1 + 1) #[.int .i64 a.kind, .string a.set, .string a.file, .string a.to, .int .i64 a.pos, .int .i64 a.num, .slice ba bn bc] 30
  r8 : CellsAt wr (W.heap.size + 1 + 1 + 1) #[.int .i64 0, .int .i64 0, .slice none 0 0, .slice none 0 0] 34
theorem KB.below {W wr w' : World} {sa : Option Addr} {n sc : Nat} {key quota : Int} {ta : Option Addr} {tn tc : Nat} {a : AskE} {ba : Option Addr} {bn bc : Nat} (h : KB W wr sa n sc key quota ta tn tc a ba bn bc) (b : Below wr.heap.size wr w') : KB W w' sa n sc key quota ta tn tc a ba bn bc := ⟨Below.tr h.bel b, h.bS.below b, h.bT.below b, h.bA.below b, h.r8.below b⟩
theorem kb_enter (w : World) (sa : Option Addr) (n sc : Nat) (key quota : Int) (ta : Option Addr) (tn tc : Nat) (a : AskE) (ba : Option Addr) (bn bc : Nat) : KB w (enterK w sa n sc key quota ta tn tc a ba bn bc) sa n sc key quota ta tn tc a ba bn bc := by
  have h1 := cellsAt_alloc w #[.slice sa n sc] 24
  have h2 := cellsAt_alloc (w.alloc (.cells #[.slice sa n sc] 24)) #[.int .i64 key, .int .i64 quota, .slice ta tn tc] 42
  have h3 := cellsAt_alloc ((w.alloc (.cells #[.slice sa n sc] 24)).alloc (.cells #[.int .i64 key, .int .i64 quota, .slice ta tn tc] 42)) #[.int .i64 a.kind, .string a.set, .string a.file, .string a.to, .int .i64 a.pos, .int .i64 a.num, .slice ba bn bc] 30
  have h4 := cellsAt_alloc (((w.alloc (.cells #[.slice sa n sc] 24)).alloc (.cells #[.int .i64 key, .int .i64 quota, .slice ta tn tc] 42)).alloc (.cells #[.int .i64 a.kind, .string a.set, .string a.file, .string a.to, .int .i64 a.pos, .int .i64 a.num, .slice ba bn bc] 30)) #[.int .i64 0, .int .i64 0, .slice none 0 0, .slice none 0 0] 34
  simp only [szL_alloc] at h2 h3 h4
  exact ⟨bAl (bAl (bAl (bAl (Below.refl _ w) _) _) _) _, ((h1.below (below_alloc _ _)).below (below_alloc _ _)).below (below_alloc _ _), (h2.below (below_alloc _ _)).below (below_alloc _ _), h3.below (below_alloc _ _), h4⟩
def RetLook (base : Nat) (w : World) (B : Nat → Blk) (key : Int) (x : SetE) (a : AskE) (e : Ending) : Prop := ∃ (e' N : Int) (ya : Option Addr) (yn yc : Nat) (y : Option Addr) (ln lc : Nat), e = .returned (.agg #[.int .i64 e', .int .i64 N, .slice ya yn yc, .slice y ln lc]) ∧ ((a.kind = 11 ∨ a.kind = 12) → RdIs base w B key x a e' y ln lc)
set_option maxHeartbeats 4000000 in
set_option maxRecDepth 100000 in
theorem poolLook_any (sa : Option Addr) (n sc : Nat) (B : Nat → Blk) (t : TenE) (ta : Option Addr) (tn tc k : Nat) (x : SetE) (a : AskE) (ba : Option Addr) (bn bc : Nat) (w : World) (hs : StoreAt w sa n B) (hT : SetsAt (fun _ => True) w ta tn t.sets) (hk : t.sets[k]? = some x) (hx : SetOk n B t.key x) :
    Calls Tryz.prog 60 #[.agg #[.slice sa n sc], .agg #[.int .i64 t.key, .int .i64 t.quota, .slice ta tn tc], .int .i64 k, .agg #[.int .i64 a.kind, .string a.set, .string a.file, .string a.to, .int .i64 a.pos, .int .i64 a.num, .slice ba bn bc]] w fun e w' => RetLook w.heap.size w' B t.key x a e ∧ Below w.heap.size w w' := by
  have hkb := kb_enter w sa n sc t.key t.quota ta tn tc a ba bn bc
  unfold enterK obj0Q at hkb
  obtain ⟨hkl, hkx⟩ := List.getElem?_eq_some_iff.1 hk
  have hks : k < tn := by rw [← hT.1]; exact hkl
  replace hkb := hid hkb
  replace hs := hid hs
  replace hT := hid hT
  replace hx := hid hx
  go_enter Tryz.func60, Tryz.ntmps60
  go_upto_region 1 with fail
  generalize (((w.alloc (.cells #[.slice sa n sc] 24)).alloc (.cells #[.int .i64 t.key, .int .i64 t.quota, .slice ta tn tc] 42)).alloc (.cells #[.int .i64 a.kind, .string a.set, .string a.file, .string a.to, .int .i64 a.pos, .int .i64 a.num, .slice ba bn bc] 30)).alloc (.cells #[.int .i64 0, .int .i64 0, .slice none 0 0, .slice none 0 0] 34) = w0 at *
  have hT0 := hT.out.below hkb.out.bel
  obtain ⟨rb, ro, hta⟩ : ∃ b off, ta = some ⟨b, off, none⟩ := by
    obtain ⟨b, off, e, _⟩ := hT0.2 (by omega)
    exact ⟨b, off, e⟩
  subst hta
  obtain ⟨v, hI⟩ := hT0.set hks
  have hgd : t.sets.getD k SetE.zero = x := by rw [← hkx]; simp [List.getD, hkl]
  rw [hgd] at hI
  have r0 := hI.c0
  have r1 := hI.c1
  have r2 := hI.c2
  have lr : rb < w0.heap.size := cell_lt r0
  have hse : Hid (∀ w', Below w0.heap.size w0 w' → SetAt (fun _ => True) w' v x) := hid (fun w' b => hI.ok.below b)
  have hst : Hid (∀ w', Below w0.heap.size w0 w' → StoreAt w' sa n B) := hid (fun w' b => (hs.out.below hkb.out.bel).below b)
  have o0 := hkb.out.bS.cell 0
  have t0 := hkb.out.bT.cell 0
  have t2 := hkb.out.bT.cell 2
  have a0 := hkb.out.bA.cell 0
  have a1 := hkb.out.bA.cell 1
  have a2 := hkb.out.bA.cell 2
  have a3 := hkb.out.bA.cell 3
  have a4 := hkb.out.bA.cell 4
  have a5 := hkb.out.bA.cell 5
  have a6 := hkb.out.bA.cell 6
  simp at o0 t0 t2 a0 a1 a2 a3 a4 a5 a6
  have lo := hkb.out.bS.lt
  have lt := hkb.out.bT.lt
  have la := hkb.out.bA.lt
  have HB1 := hid (bDr (Below.refl _ w0))
  have HB2 := hid (bDr (bAl (Below.refl _ w0) obj0Q))
  have HZ2 : Hid ((w0.alloc obj0Q).drew.heap.size = w0.heap.size + 1) := hid (by show (w0.alloc obj0Q).heap.size = _; simp)
  have ka2 := hid ((cellsAt_alloc w0 #[.int .i64 0, .int .i64 0, .slice none 0 0, .slice none 0 0] 34).below (below_drew _ _))
  have n0 := Nat.ne_of_lt lo
  have n1 := Nat.ne_of_lt lt
  have n2 := Nat.ne_of_lt la
  have n3 := Nat.ne_of_lt lr
  have n0' := n0.symm
  have n1' := n1.symm
  have n2' := n2.symm
  have n3' := n3.symm
  have hk0 : (0 : Int) ≤ (k : Int) := by omega
  have hksI : (k : Int) < (tn : Int) := by omega
  clear hT0 hI hgd hkx hk
  go_cut [9, 10] from 24 (fun v9 v10 wc => GotLk w0 wc B t.key x a v9 v10)
  case first =>
    go_region_held3 (fun w' => w'.cell? ⟨w.heap.size, 0, none⟩ = some (.slice sa n sc) ∧ w'.cell? ⟨w.heap.size + 1, 0, none⟩ = some (.int .i64 t.key) ∧ w'.cell? ⟨w.heap.size + 1, 2, none⟩ = some (.slice (some ⟨rb, ro, none⟩) tn tc) ∧ w'.cell? ⟨rb, ro + k * 3, none⟩ = some (.string v.name) ∧ w'.cell? ⟨rb, ro + k * 3 + 1, none⟩ = some (.slice v.fa v.fn v.fc) ∧ w'.cell? ⟨rb, ro + k * 3 + 2, none⟩ = some (.slice v.sa v.sn v.sc) ∧ w'.cell? ⟨w.heap.size + 1 + 1, 0, none⟩ = some (.int .i64 a.kind) ∧ w'.cell? ⟨w.heap.size + 1 + 1, 1, none⟩ = some (.string a.set) ∧ w'.cell? ⟨w.heap.size + 1 + 1, 2, none⟩ = some (.string a.file) ∧ w'.cell? ⟨w.heap.size + 1 + 1, 3, none⟩ = some (.string a.to) ∧ w'.cell? ⟨w.heap.size + 1 + 1, 4, none⟩ = some (.int .i64 a.pos) ∧ w'.cell? ⟨w.heap.size + 1 + 1, 5, none⟩ = some (.int .i64 a.num) ∧ w'.cell? ⟨w.heap.size + 1 + 1, 6, none⟩ = some (.slice ba bn bc)) (first | go_keep | assumption) (first | (go_at_call 99; refine Calls.mono (look_both (fun _ => True) sa n sc B t.key v x a ba bn bc _ ?_ ?_ hx.out) ?_; (first | with_reducible exact hst.out _ HB1.out | with_reducible exact hst.out _ HB2.out); (first | with_reducible exact hse.out _ HB1.out | with_reducible exact hse.out _ HB2.out); rintro e w6 ⟨⟨e1, N, ya, yn, yc, y, ln, lc, e', rfl, h60, h6r⟩, b6⟩; (first | (with_reducible have bb := hid (Below.tr HB1.out b6)) | (with_reducible have bb := hid (Below.tr HB2.out b6); have ka := hid (ka2.out.below b6); rw [HZ2.out] at h6r; have cka0 := ka.out.cell 0; have cka1 := ka.out.cell 1; have cka2 := ka.out.cell 2; have cka3 := ka.out.cell 3; have fka0 := ka.out.frozen 0; have fka1 := ka.out.frozen 1; have fka2 := ka.out.frozen 2; have fka3 := ka.out.frozen 3; simp at cka0 cka1 cka2 cka3)); have z0 := (bb.out.cell (p := ⟨w.heap.size, 0, none⟩) lo).trans o0; have z1 := (bb.out.cell (p := ⟨w.heap.size + 1, 0, none⟩) lt).trans t0; have z2 := (bb.out.cell (p := ⟨w.heap.size + 1, 2, none⟩) lt).trans t2; have z3 := (bb.out.cell (p := ⟨rb, ro + k * 3, none⟩) lr).trans r0; have z4 := (bb.out.cell (p := ⟨rb, ro + k * 3 + 1, none⟩) lr).trans r1; have z5 := (bb.out.cell (p := ⟨rb, ro + k * 3 + 2, none⟩) lr).trans r2; have y0 := (bb.out.cell (p := ⟨w.heap.size + 1 + 1, 0, none⟩) la).trans a0; have y1 := (bb.out.cell (p := ⟨w.heap.size + 1 + 1, 1, none⟩) la).trans a1; have y2 := (bb.out.cell (p := ⟨w.heap.size + 1 + 1, 2, none⟩) la).trans a2; have y3 := (bb.out.cell (p := ⟨w.heap.size + 1 + 1, 3, none⟩) la).trans a3; have y4 := (bb.out.cell (p := ⟨w.heap.size + 1 + 1, 4, none⟩) la).trans a4; have y5 := (bb.out.cell (p := ⟨w.heap.size + 1 + 1, 5, none⟩) la).trans a5; have y6 := (bb.out.cell (p := ⟨w.heap.size + 1 + 1, 6, none⟩) la).trans a6; replace b6 := hid b6; replace h60 := hid h60; replace h6r := hid h6r))
    all_goals (go_wp2_with fail; go_meet; first
      | exact gotLk_ca bb.out h60.out h6r.out (by first | exact Nat.le_refl _ | exact Nat.le_succ _)
      | exact gotLk_ac (g := w0.heap.size) ka.out (Nat.le_refl _) (Nat.lt_succ_self _) bb.out h60.out h6r.out)
  case rest =>
    obtain ⟨a9, e1, N, ya, yn, yc, y, ln, lc, e', rfl, rfl, k9, bC, h9, h60, h6r⟩ := hcut
    replace h60 := hid h60
    replace h6r := hid h6r
    have hsw0 : Hid (w.heap.size + 1 + 1 + 1 < w0.heap.size) := hid hkb.out.r8.lt
    replace hkb := hid (hkb.out.below bC)
    clear o0 t0 t2 a0 a1 a2 a3 a4 a5 a6 r0 r1 r2 HB1 HB2 ka2 hse hst n0 n1 n2 n3 n0' n1' n2' n3' bC
    have q0 := hkb.out.r8.cell 0
    have q1 := hkb.out.r8.cell 1
    have q2 := hkb.out.r8.cell 2
    have q3 := hkb.out.r8.cell 3
    have z0 := hkb.out.r8.frozen 0
    have z1 := hkb.out.r8.frozen 1
    have z2 := hkb.out.r8.frozen 2
    have z3 := hkb.out.r8.frozen 3
    have c0 := k9.cell 0
    have c1 := k9.cell 1
    have c2 := k9.cell 2
    have c3 := k9.cell 3
    simp at q0 q1 q2 q3 c0 c1 c2 c3
    by_cases he : e' = 0
    · have he' : (e' == 0) = true := by simp [he]
      replace he := hid he
      go_wp2_with fail
      refine bodyPost_ret (v := .agg #[.int .i64 e1, .int .i64 N, .slice ya yn yc, .slice y ln lc]) ?_ rfl ?_
      · exact results_cell_row rfl _ _ (w.heap.size + 1 + 1 + 1) _ _ _ _ rfl (cells_putQ hkb.out.r8 e1 N ya yn yc y ln lc) Tryz.underlying34 rfl (by kernel_rfl)
      · exact ⟨⟨_, _, _, _, _, _, _, _, rfl, fun _ => h6r.out.map fun l h => (h.kept (g := w.heap.size + 1 + 1 + 1) (fun b hb => by have := hsw0.out; omega) (kept_putQ _ _ _ _ _ _ _ _ _ _)).weaken (fun b _ q => by have := hsw0.out; omega)⟩, hkb.out.bel.trans ((kept_putQ _ _ _ _ _ _ _ _ _ _).below (by omega))⟩
    · have he' : (e' == 0) = false := by simp [he]
      go_wp2_with fail
      refine bodyPost_ret (v := .agg #[.int .i64 e', .int .i64 0, .slice none 0 0, .slice none 0 0]) ?_ rfl ?_
      · exact results_cell_row rfl _ _ (w.heap.size + 1 + 1 + 1) _ _ _ _ rfl (cells_putQ hkb.out.r8 e' 0 none 0 0 none 0 0) Tryz.underlying34 rfl (by kernel_rfl)
      · exact ⟨⟨_, _, _, _, _, _, _, _, rfl, fun f => absurd (h60.out f) he⟩, hkb.out.bel.trans ((kept_putQ _ _ _ _ _ _ _ _ _ _).below (by omega))⟩
end Go.Proofs.YtnmcgmpmcliinaaGreat
