/-
  SndV, SndW in one text. Nothing here is trusted.
-/
import Derived.Test.YtnmcgmpmcliinaaGreatPart42
import Derived.Test.YtnmcgmpmcliinaaGreatPart34
import Derived.Test.YtnmcgmpmcliinaaGreatPart31
set_option linter.unusedVariables false
namespace Go.Proofs.YtnmcgmpmcliinaaGreat
open Go.RowKit

theorem ret_step {L : Nat} {w w' : World} {ob kb yb : Nat} {key : Int} {n : Nat} {B D : Nat → Blk} {x y : SetE} {a : AskE} {e : Ending} {pre : List AskE} (hS : Steps n key 999510 B x pre D y) (hT : Std n key B x D y) (ha : Is345 a) (h : RetS1 L w ob kb yb key n D y a e w') :
    Only (fun b => b = ob ∨ b = yb) w w' ∧ ∃ e' : Int, e = .returned (.int .i64 e') ∧ ((e' ≠ 0 ∧ ErrIs e' y a) ∨ (e' = 0 ∧ ∃ (g : Nat) (D' : Nat → Blk) (v' : SetV) (y' : SetE), Steps n key 999510 B x (pre ++ [a]) D' y' ∧ Std n key B x D' y' ∧ AP L w' ob kb yb key g n D' v' y')) := by
  obtain ⟨on, ⟨e', h1, h2, h3⟩ | ⟨h1, g, D', v', y', hd, hA⟩⟩ := h
  · exact ⟨on, e', h1, .inl ⟨h2, h3 hT.nxt.ok hT.nxt.held⟩⟩
  · exact ⟨on, 0, h1, .inr ⟨rfl, g, D', v', y', .snoc hS hd, hT.step ha hd, hA⟩⟩
/-- an ask that was refused -/
def Fails (n : Nat) (key : Int) (B : Nat → Blk) (x : SetE) (l : List AskE) (e' : Int) : Prop := ∃ (p : List AskE) (a : AskE) (r : List AskE) (D : Nat → Blk) (y : SetE), l = p ++ a :: r ∧ Steps n key 999510 B x p D y ∧ Std n key B x D y ∧ ErrIs e' y a
/-- what change answers -/
def RetCn (L : Nat) (w : World) (ob kb yb : Nat) (key : Int) (n : Nat) (B : Nat → Blk) (x : SetE) (pre : List AskE) (d : DifE) (e : Ending) (w' : World) : Prop :=
  Only (fun b => b = ob ∨ b = yb) w w' ∧ ∃ e' : Int, e = .returned (.int .i64 e') ∧
    ((e' ≠ 0 ∧ ((d.kind = 1 ∨ d.kind = 2 ∨ d.kind = 3) → Fails n key B x (pre ++ asksOf d) e')) ∨
     (e' = 0 ∧ ∃ (g : Nat) (D' : Nat → Blk) (v' : SetV) (y' : SetE), Steps n key 999510 B x (pre ++ asksOf d) D' y' ∧ Std n key B x D' y' ∧ AP L w' ob kb yb key g n D' v' y'))
theorem fails_at {n : Nat} {key : Int} {B : Nat → Blk} {x : SetE} {pre q r : List AskE} {a : AskE} {D : Nat → Blk} {y : SetE} {e' : Int} (hS : Steps n key 999510 B x (pre ++ q) D y) (hT : Std n key B x D y) (hE : ErrIs e' y a) : Fails n key B x (pre ++ (q ++ a :: r)) e' := ⟨pre ++ q, a, r, D, y, by rw [List.append_assoc], hS, hT, hE⟩

set_option maxHeartbeats 4000000 in
set_option maxRecDepth 100000 in
theorem schange_any (L ob kb yb : Nat) (key : Int) (g0 n : Nat) (B D : Nat → Blk) (v : SetV) (x y : SetE) (pre : List AskE) (d : DifE) (ba : Option Addr) (bn bc : Nat) (w : World) (hP : AP L w ob kb yb key g0 n D v y) (hd : DifM.At (fun _ => True) w ⟨d, ba, bn, bc⟩) (hS : Steps n key 999510 B x pre D y) (hT : Std n key B x D y) :
    Calls Tryz.prog 48 #[.agg #[.int .i64 d.kind, .string d.name, .int .i64 d.num, .slice ba bn bc], .func (.func 47) #[] #[.pointer (some ⟨ob, 0, none⟩), .pointer (some ⟨kb, 0, none⟩), .pointer (some ⟨yb, 0, none⟩)]] w fun e w' => RetCn L w ob kb yb key n B x pre d e w' := by
  have b0 := below_alloc w (.cells #[.int .i64 d.kind, .string d.name, .int .i64 d.num, .slice ba bn bc] 104)
  have kd := cellsAt_alloc w #[.int .i64 d.kind, .string d.name, .int .i64 d.num, .slice ba bn bc] 104
  have hby : Bytes d.bytes := hd.bytes.bytes
  have hnm := hid hd.small
  have hnb := hid hd.nb
  have hnE : nE.size ≤ maxLen := by decide
  have hB0 := hid (hd.bytes.below b0)
  have hP0 := hid (hP.below b0)
  have lo := hP.o.lt
  have ly := hP.x.lt
  have hai := hid (asks_is hby)
  replace hd := hid hd
  replace hP := hid hP
  replace hS := hid hS
  replace hT := hid hT
  replace b0 := hid b0
  replace kd := hid kd
  replace hby := hid hby
  have e5 : Hid (∀ nm : ByteArray, nm.size ≤ maxLen → AskE.ok ⟨5, nE, nm, nE, 0, 0, []⟩) := hid (fun nm h => ⟨⟨hnE, h, hnE⟩, by simp, by simp, by simp⟩)
  have e3 : Hid (∀ (nm : ByteArray) (z : Int) (l : List Int), nm.size ≤ maxLen → I64 z → AskE.ok ⟨3, nE, nm, nE, z, 0, l⟩) := hid (fun nm z l h hz => ⟨⟨hnE, h, hnE⟩, by simp, hz, by simp⟩)
  have e4 : Hid (∀ (nm : ByteArray) (z : Int), nm.size ≤ maxLen → I64 z → AskE.ok ⟨4, nE, nm, nE, 0, z, []⟩) := hid (fun nm z h hz => ⟨⟨hnE, h, hnE⟩, by simp, by simp, hz⟩)
  have nn : Hid (∀ W : World, NumsAt (fun _ => True) .u8 W none 0 ([] : List Int)) := hid (fun W => ⟨rfl, fun x hx => by simp at hx, fun h => absurd h (by omega)⟩)
  by_cases hk1 : d.kind = 1
  · have f1 : (d.kind == 1) = true := by simp [hk1]
    have hak : Hid (asksOf d = [⟨5, nE, d.name, nE, 0, 0, []⟩]) := hid (by unfold asksOf; rw [if_pos hk1])
    replace hk1 := hid hk1
    go_enter Tryz.func48, Tryz.ntmps48
    go_wp2_with fail
    refine (applyDo_any L ob kb yb key g0 n D v y ⟨5, nE, d.name, nE, 0, 0, []⟩ none 0 0 _ hP0.out (nn.out _) (e5.out d.name hnm.out) hT.out.few (hai.out _ (by rw [hak.out]; simp))).mono ?_
    rintro e w1 h1
    obtain ⟨on, e', rfl, hcase⟩ := ret_step hS.out hT.out (hai.out _ (by rw [hak.out]; simp)) h1
    replace on := hid ((Only.of_below b0.out).trans on)
    replace hcase := hid hcase
    clear h1
    go_wp2_with fail
    go_ret
    refine ⟨on.out, e', rfl, ?_⟩
    rw [hak.out]
    rcases hcase.out with ⟨h2, h3⟩ | h2
    · exact .inl ⟨h2, fun _ => fails_at (q := []) (by rw [List.append_nil]; exact hS.out) hT.out h3⟩
    · exact .inr h2
  have f1 : (d.kind == 1) = false := by simp [hk1]
  by_cases hk2 : d.kind = 2
  · have f2 : (d.kind == 2) = true := by simp [hk2]
    have hak : Hid (asksOf d = [⟨3, nE, d.name, nE, 0, 0, []⟩, ⟨4, nE, d.name, nE, 0, d.num, []⟩]) := hid (by unfold asksOf; rw [if_neg hk1, if_pos hk2])
    replace hk1 := hid hk1
    replace hk2 := hid hk2
    go_enter Tryz.func48, Tryz.ntmps48
    go_wp2_with fail
    refine (applyDo_any L ob kb yb key g0 n D v y ⟨3, nE, d.name, nE, 0, 0, []⟩ none 0 0 _ hP0.out (nn.out _) (e3.out d.name 0 [] hnm.out (by unfold I64; omega)) hT.out.few (hai.out _ (by rw [hak.out]; simp))).mono ?_
    rintro e w1 h1
    obtain ⟨on, e', rfl, hcase⟩ := ret_step hS.out hT.out (hai.out _ (by rw [hak.out]; simp)) h1
    have kd1 := on.cells kd.out (by omega)
    replace on := hid ((Only.of_below b0.out).trans on)
    clear h1
    rcases hcase with ⟨h2, h3⟩ | ⟨rfl, g, D1, v1, y1, hS1, hT1, hA1⟩
    · have g0 : (e' == 0) = false := by simp [h2]
      replace h3 := hid h3
      clear kd1
      go_wp2_with fail
      go_ret
      refine ⟨on.out, e', rfl, .inl ⟨h2, fun _ => ?_⟩⟩
      rw [hak.out]
      exact fails_at (q := []) (by rw [List.append_nil]; exact hS.out) hT.out h3.out
    · have c1 := kd1.cell 1
      have c2 := kd1.cell 2
      simp at c1 c2
      replace kd1 := hid kd1
      replace hA1 := hid hA1
      replace hS1 := hid hS1
      replace hT1 := hid hT1
      go_wp2_with fail
      refine (applyDo_any L ob kb yb key g n D1 v1 y1 ⟨4, nE, d.name, nE, 0, d.num, []⟩ none 0 0 w1 hA1.out (nn.out _) (e4.out d.name d.num hnm.out hnb.out) hT1.out.few (hai.out _ (by rw [hak.out]; simp))).mono ?_
      rintro e w2 h1
      obtain ⟨on2, e2, rfl, hcase⟩ := ret_step hS1.out hT1.out (hai.out _ (by rw [hak.out]; simp)) h1
      replace on := hid (on.out.trans on2)
      replace hcase := hid hcase
      clear h1 on2 c1 c2
      go_wp2_with fail
      go_ret
      refine ⟨on.out, e2, rfl, ?_⟩
      rw [hak.out]
      rcases hcase.out with ⟨h2, h3⟩ | ⟨h2, g2, D2, v2, y2, h3, h4⟩
      · exact .inl ⟨h2, fun _ => fails_at (q := [⟨3, nE, d.name, nE, 0, 0, []⟩]) hS1.out hT1.out h3⟩
      · rw [List.append_assoc] at h3
        exact .inr ⟨h2, g2, D2, v2, y2, h3, h4⟩
  have f2 : (d.kind == 2) = false := by simp [hk2]
  by_cases hk3 : d.kind = 3
  · have f3 : (d.kind == 3) = true := by simp [hk3]
    have hak : Hid (asksOf d = [⟨3, nE, d.name, nE, d.num, 0, d.bytes⟩]) := hid (by unfold asksOf; rw [if_neg hk1, if_neg hk2, if_pos hk3])
    replace hk1 := hid hk1
    replace hk2 := hid hk2
    replace hk3 := hid hk3
    go_enter Tryz.func48, Tryz.ntmps48
    go_wp2_with fail
    refine (applyDo_any L ob kb yb key g0 n D v y ⟨3, nE, d.name, nE, d.num, 0, d.bytes⟩ ba bn bc _ hP0.out hB0.out (e3.out d.name d.num d.bytes hnm.out hnb.out) hT.out.few (hai.out _ (by rw [hak.out]; simp))).mono ?_
    rintro e w1 h1
    obtain ⟨on, e', rfl, hcase⟩ := ret_step hS.out hT.out (hai.out _ (by rw [hak.out]; simp)) h1
    replace on := hid ((Only.of_below b0.out).trans on)
    replace hcase := hid hcase
    clear h1
    go_wp2_with fail
    go_ret
    refine ⟨on.out, e', rfl, ?_⟩
    rw [hak.out]
    rcases hcase.out with ⟨h2, h3⟩ | h2
    · exact .inl ⟨h2, fun _ => fails_at (q := []) (by rw [List.append_nil]; exact hS.out) hT.out h3⟩
    · exact .inr h2
  have f3 : (d.kind == 3) = false := by simp [hk3]
  have hno : Hid (¬ (d.kind = 1 ∨ d.kind = 2 ∨ d.kind = 3)) := hid (by omega)
  replace hk1 := hid hk1
  replace hk2 := hid hk2
  replace hk3 := hid hk3
  go_enter Tryz.func48, Tryz.ntmps48
  go_wp2_with fail
  go_ret
  exact ⟨Only.of_below b0.out, 4, rfl, .inl ⟨by omega, fun f => absurd f hno.out⟩⟩

set_option maxHeartbeats 2000000 in
set_option maxRecDepth 100000 in
theorem checkAll_any (Q : Nat → Prop) (a : Option Addr) (n c : Nat) (B : Nat → Blk) (key : Int) (v : SetV) (x : SetE) (la : Option Addr) (ln lc : Nat) (w : World) (h : StoreAt w a n B) (hX : SetAt Q w v x) (hln : ln ≤ 1000) :
    Calls Tryz.prog 44 #[.agg #[.slice a n c], .int .i64 key, v.val, .slice la ln lc] w fun e w' => (∃ e' : Int, e = .returned (.int .i64 e') ∧ (e' = 0 → SetOk n B key x ∧ HeldR n B (rootsX x)) ∧ (SetOk n B key x → ln ≤ 40 → e' = 0 ∨ e' = 7)) ∧ Below w.heap.size w w' := by
  have b0 := below_two w (.cells #[.slice a n c] 24) (.cells #[.string v.name, .slice v.fa v.fn v.fc, .slice v.sa v.sn v.sc] 47)
  have k0 : CellsAt _ w.heap.size #[.slice a n c] 24 := (cellsAt_alloc w _ _).below (below_alloc _ (.cells #[.string v.name, .slice v.fa v.fn v.fc, .slice v.sa v.sn v.sc] 47))
  have k1 := cellsAt_alloc2 w (.cells #[.slice a n c] 24) #[.string v.name, .slice v.fa v.fn v.fc, .slice v.sa v.sn v.sc] 47
  replace h := hid (h.below b0)
  replace hX := hid (hX.below b0)
  replace b0 := hid b0
  replace k0 := hid k0
  replace k1 := hid k1
  unfold SetV.val
  go_enter Tryz.func44, Tryz.ntmps44
  go_wp2_with fail
  generalize (w.alloc (.cells #[.slice a n c] 24)).alloc (.cells #[.string v.name, .slice v.fa v.fn v.fc, .slice v.sa v.sn v.sc] 47) = w0 at *
  refine (setCheck_any Q a n c B key v x w0 h.out hX.out).mono ?_
  rintro e w1 ⟨⟨e', rfl, he⟩, b1⟩
  replace he := hid he
  have s0 := (k0.out.below b1).cell 0
  have x0 := (k1.out.below b1).cell 0
  have x1 := (k1.out.below b1).cell 1
  have x2 := (k1.out.below b1).cell 2
  simp at s0 x0 x1 x2
  by_cases h0 : e' = 0
  · have h0' : (e' == 0) = true := by simp [h0]
    have hok := hid (he.out.1 h0)
    go_wp2_with fail
    refine (held_full Q a n c B key v x w1 (h.out.below b1) (hX.out.below b1) hok.out).mono ?_
    rintro e w2 ⟨⟨⟨e2, rfl, he2⟩, h7⟩, b2⟩
    have h7' : e2 = 0 ∨ e2 = 7 := by simpa using h7
    have bF := hid (Below.tr (Below.tr b0.out b1) b2)
    clear s0 x0 x1 x2 b2 h7
    by_cases h2 : e2 = 0
    · have g2 : (e2 == 0) = true := by simp [h2]
      have hheld := hid (he2.1 h2)
      clear he2 h7'
      by_cases h40 : 40 < ln
      · have hc40 : (40 : Int) < (ln : Int) := by omega
        go_wp2_with fail
        go_ret
        exact ⟨⟨2, rfl, fun f => absurd f (by omega), fun _ f => absurd f (by omega)⟩, bF.out⟩
      · have hc40 : ¬ ((40 : Int) < (ln : Int)) := by omega
        go_wp2_with fail
        go_ret
        exact ⟨⟨0, rfl, fun _ => ⟨hok.out, hheld.out⟩, fun _ _ => .inl rfl⟩, bF.out⟩
    · have g2 : (e2 == 0) = false := by simp [h2]
      have h7h := hid h7'
      clear he2 h7'
      go_wp2_with fail
      go_ret
      exact ⟨⟨e2, rfl, fun f => absurd f h2, fun _ _ => h7h.out⟩, bF.out⟩
  · have h0' : (e' == 0) = false := by simp [h0]
    clear s0 x0 x1 x2
    go_wp2_with fail
    go_ret
    exact ⟨⟨e', rfl, fun f => absurd f h0, fun f _ => absurd (he.out.2 f) h0⟩, Below.tr b0.out b1⟩
end Go.Proofs.YtnmcgmpmcliinaaGreat

namespace Go.Proofs.YtnmcgmpmcliinaaGreat
open Go.RowKit

/-- Apply's boxes -/
structure EB (W wr : World) (sa : Option Addr) (n sc : Nat) (key : Int) (v : SetV) : Prop where
  bel : Below W.heap.size W wr
  sz : W.heap.size + 5 ≤ wr.heap.size
  bS : CellsAt wr W.heap.size #[.slice sa n sc] 24
  bK : CellsAt wr (W.heap.size + 1) #[.int .i64 key] 3
  bX : CellsAt wr (W.heap.size + 1 + 1) #[.string v.name, .slice v.fa v.fn v.fc, .slice v.sa v.sn v.sc] 47
  r8 : CellsAt wr (W.heap.size + 1 + 1 + 1) #[.slice none 0 0] 24
  r9 : CellsAt wr (W.heap.size + 1 + 1 + 1 + 1) #[.string (ByteArray.mk #[]), .slice none 0 0, .slice none 0 0] 47
theorem EB.below {W wr w' : World} {sa : Option Addr} {n sc : Nat} {key : Int} {v : SetV} (h : EB W wr sa n sc key v) (b : Below wr.heap.size wr w') : EB W w' sa n sc key v := ⟨Below.tr h.bel b, Nat.le_trans h.sz b.size, h.bS.below b, h.bK.below b, h.bX.below b, h.r8.below b, h.r9.below b⟩
theorem eb_enter (w : World) (sa : Option Addr) (n sc : Nat) (key : Int) (v : SetV) : EB w (((((w.alloc (.cells #[.slice sa n sc] 24)).alloc (.cells #[.int .i64 key] 3)).alloc (.cells #[.string v.name, .slice v.fa v.fn v.fc, .slice v.sa v.sn v.sc] 47)).alloc (.cells #[.slice none 0 0] 24)).alloc (.cells #[.string (ByteArray.mk #[]), .slice none 0 0, .slice none 0 0] 47)) sa n sc key v := by
  have h1 := cellsAt_alloc w #[.slice sa n sc] 24
  have h2 := cellsAt_alloc (w.alloc (.cells #[.slice sa n sc] 24)) #[.int .i64 key] 3
  have h3 := cellsAt_alloc ((w.alloc (.cells #[.slice sa n sc] 24)).alloc (.cells #[.int .i64 key] 3)) #[.string v.name, .slice v.fa v.fn v.fc, .slice v.sa v.sn v.sc] 47
  have h4 := cellsAt_alloc (((w.alloc (.cells #[.slice sa n sc] 24)).alloc (.cells #[.int .i64 key] 3)).alloc (.cells #[.string v.name, .slice v.fa v.fn v.fc, .slice v.sa v.sn v.sc] 47)) #[.slice none 0 0] 24
  have h5 := cellsAt_alloc ((((w.alloc (.cells #[.slice sa n sc] 24)).alloc (.cells #[.int .i64 key] 3)).alloc (.cells #[.string v.name, .slice v.fa v.fn v.fc, .slice v.sa v.sn v.sc] 47)).alloc (.cells #[.slice none 0 0] 24)) #[.string (ByteArray.mk #[]), .slice none 0 0, .slice none 0 0] 47
  simp only [sz_alloc] at h2 h3 h4 h5
  exact ⟨bAl (bAl (bAl (bAl (bAl (Below.refl _ w) _) _) _) _) _, by simp, (((h1.below (below_alloc _ _)).below (below_alloc _ _)).below (below_alloc _ _)).below (below_alloc _ _), ((h2.below (below_alloc _ _)).below (below_alloc _ _)).below (below_alloc _ _), (h3.below (below_alloc _ _)).below (below_alloc _ _), h4.below (below_alloc _ _), h5⟩
/-- the stores into the results -/
theorem EB.put {W wr : World} {sa : Option Addr} {n sc : Nat} {key : Int} {v : SetV} (h : EB W wr sa n sc key v) (s : Value) (u : SetV) : Below W.heap.size W (putX (wr.setCell ⟨W.heap.size + 1 + 1 + 1, 0, none⟩ s) (W.heap.size + 1 + 1 + 1 + 1) u) :=
  (h.bel.trans ((kept_putS wr (W.heap.size + 1 + 1 + 1) s).below (by omega))).trans ((kept_putX _ _ u).below (by omega))
/-- what Apply answers -/
def RetAp (w : World) (n : Nat) (B : Nat → Blk) (key : Int) (x : SetE) (ds : List DifE) (e : Ending) (w' : World) : Prop :=
  Below w.heap.size w w' ∧ ((∃ e' : Int, e = .returned (.tuple #[.agg #[.slice none 0 0], .agg #[.string (ByteArray.mk #[]), .slice none 0 0, .slice none 0 0], .int .i64 e']) ∧ e' ≠ 0 ∧ (SetOk n B key x → ds.length ≤ 40 → (∀ d ∈ ds, d.kind = 1 ∨ d.kind = 2 ∨ d.kind = 3) → e' = 7 ∨ Fails n key B x (ds.flatMap asksOf) e')) ∨
    (∃ (g : Nat) (D : Nat → Blk) (u : SetV) (y : SetE), e = .returned (.tuple #[.agg #[.slice (some ⟨g, 0, none⟩) n n], .agg #[.string u.name, .slice u.fa u.fn u.fc, .slice u.sa u.sn u.sc], .int .i64 0]) ∧ Steps n key 999510 B x (ds.flatMap asksOf) D y ∧ Std n key B x D y ∧ StoreAt w' (some ⟨g, 0, none⟩) n D ∧ SetAt (fun _ => True) w' u y))
theorem RetAp.drew {w w' : World} {n : Nat} {B : Nat → Blk} {key : Int} {x : SetE} {ds : List DifE} {e : Ending} (h : RetAp w n B key x ds e w') : RetAp w n B key x ds e w'.drew := by
  obtain ⟨b, h⟩ := h
  refine ⟨b.trans (below_drew _ _), ?_⟩
  rcases h with h | ⟨g, D, u, y, h1, h2, h3, h4, h5⟩
  · exact .inl h
  · exact .inr ⟨g, D, u, y, h1, h2, h3, h4.below (below_drew _ _), h5.below (below_drew _ _)⟩
theorem Fails.more {n : Nat} {key : Int} {B : Nat → Blk} {x : SetE} {l m : List AskE} {e' : Int} (h : Fails n key B x l e') : Fails n key B x (l ++ m) e' := by
  obtain ⟨p, a, r, D, y, rfl, h1, h2, h3⟩ := h
  exact ⟨p, a, r ++ m, D, y, by simp, h1, h2, h3⟩
theorem two_ap {W wc : World} {P : Nat → Prop} {ob kb yb g n : Nat} {B : Nat → Blk} {u : SetV} {x : SetE} {ms : List SnapM} {key : Int} (h : Two W.heap.size P wc ob yb g n B u x ms) (hk : CellsAt wc kb #[.int .i64 key] 3) (hkb : kb < W.heap.size) (lo : W.heap.size ≤ ob) (ly : W.heap.size ≤ yb) (lw : W.heap.size ≤ wc.heap.size) : AP W.heap.size wc ob kb yb key g n B u x := by
  have hA := h.set.new.at
  have hnm := h.set.new.name
  refine ⟨h.box, hk, by rw [hnm]; exact h.set.box, h.own, ?_, ⟨h.no.1, by omega, by omega⟩, h.ng.2.2.2, lw⟩
  exact ⟨hA.name, hA.small, hA.files.weaken (fun b _ q => by rcases q with q | q; (· omega); exact h.lb b q), hA.snaps.weaken (fun b _ q => by rcases q with q | q; (· omega); exact h.lb b q), hA.caps⟩

set_option maxHeartbeats 8000000 in
set_option maxRecDepth 100000 in
theorem apply_any (Q : Nat → Prop) (sa : Option Addr) (n sc : Nat) (B : Nat → Blk) (key : Int) (v : SetV) (x : SetE) (la : Option Addr) (ln lc : Nat) (ls : List DifM) (w : World) (hs : StoreAt w sa n B) (hX : SetAt Q w v x) (hL : DifsAt w la ln ls) (hln : ln ≤ 1000) (hc : ∀ k, k < n → (B k).refs ≤ 999000) :
    Calls Tryz.prog 17 #[.agg #[.slice sa n sc], .int .i64 key, v.val, .slice la ln lc] w fun e w' => RetAp w n B key x (ls.map (·.e)) e w' := by
  have hmf : ∀ (fn : Fn) (first cap : Array Value) (w : World), (Instr.makeFunc fn first cap).run Tryz.prog w = .ok (.func fn first cap) w := fun _ _ _ _ => rfl
  have heb := hid (eb_enter w sa n sc key v)
  have hll := hL.1
  unfold SetV.val
  replace hs := hid hs
  replace hX := hid hX
  replace hL := hid hL
  replace hc := hid hc
  go_enter Tryz.func17, Tryz.ntmps17
  go_wp2_with fail
  generalize ((((w.alloc (.cells #[.slice sa n sc] 24)).alloc (.cells #[.int .i64 key] 3)).alloc (.cells #[.string v.name, .slice v.fa v.fn v.fc, .slice v.sa v.sn v.sc] 47)).alloc (.cells #[.slice none 0 0] 24)).alloc (.cells #[.string (ByteArray.mk #[]), .slice none 0 0, .slice none 0 0] 47) = w0 at *
  refine (checkAll_any Q sa n sc B key v x la ln lc w0 (hs.out.below heb.out.bel) (hX.out.below heb.out.bel) hln).mono ?_
  rintro e w2 ⟨⟨e', rfl, he, hwhy⟩, b2⟩
  replace heb := hid (heb.out.below b2)
  clear b2
  by_cases h0 : e' = 0
  case neg =>
    have h0' : (e' == 0) = false := by simp [h0]
    have q1 := heb.out.r8.cell 0
    have q2 := heb.out.r8.frozen 0
    have q3 := heb.out.r9.cell 0
    have q4 := heb.out.r9.frozen 0
    have q5 := heb.out.r9.cell 1
    have q6 := heb.out.r9.frozen 1
    have q7 := heb.out.r9.cell 2
    have q8 := heb.out.r9.frozen 2
    simp at q1 q3 q5 q7
    have hwhy' : Hid (SetOk n B key x → ln ≤ 40 → e' = 7) := hid (fun f1 f2 => (hwhy f1 f2).resolve_left h0)
    clear hwhy he
    go_wp2_with fail
    refine bodyPost_ret (v := .tuple #[.agg #[.slice none 0 0], .agg #[.string (ByteArray.mk #[]), .slice none 0 0, .slice none 0 0], .int .i64 e']) (by rw [results_cells2 rfl]; go_simp) rfl ⟨heb.out.put (.slice none 0 0) ⟨(ByteArray.mk #[]), none, 0, 0, none, 0, 0⟩, .inl ⟨e', rfl, h0, fun f1 f2 _ => .inl (hwhy'.out f1 (by rw [List.length_map] at f2; omega))⟩⟩
  subst h0
  obtain ⟨hx, hh⟩ := he rfl
  clear he hwhy
  have hsh := hid hx.shape
  have hn4 : n ≤ 400 := hx.right.small
  have hF4 : Hid (∀ i, i < n → (B i).kids.length ≤ 4 ∧ (B i).bytes.length ≤ 4) := hid (fun i hi => ⟨(hx.right.one i hi).few, (hx.right.one i hi).few2⟩)
  have hstd : Hid (Std n key B x B x) := hid ⟨nxt_refl hx hh, hc.out⟩
  replace hx := hid hx
  replace hh := hid hh
  have hptr := hid (fun W0 (bb : Below w2.heap.size w2 W0) => (PtrAt.mk heb.out.bS.lt (by have := heb.out.bS.cell 0; simpa using this) (hs.out.below heb.out.bel) : PtrAt w2 ⟨w.heap.size, 0, none⟩ sa n sc B).below bb)
  have hset := hid (fun W0 (bb : Below w2.heap.size w2 W0) => (hX.out.below heb.out.bel).below bb)
  have s0 := heb.out.bX.cell 0
  have s1 := heb.out.bX.cell 1
  have s2 := heb.out.bX.cell 2
  simp at s0 s1 s2
  have S0 := hid s0
  have S1 := hid s1
  have S2 := hid s2
  have lx := heb.out.bX.lt
  have hszdb := heb.out.sz
  have m1 := Nat.ne_of_lt lx
  have m2 : w.heap.size + 1 ≠ w2.heap.size := by omega
  have m1' := m1.symm
  have m2' := m2.symm
  have m3 : w.heap.size ≠ w2.heap.size := by omega
  have m3' := m3.symm
  go_upto_region 4 with fail
  go_cut [12, 13] from 23 (fun v12 v13 wc => GotD w2 wc n B x v12 v13)
  case first =>
    go_region_held3 (fun w' => w'.cell? ⟨w.heap.size + 1 + 1, 0, none⟩ = some (.string v.name) ∧ w'.cell? ⟨w.heap.size + 1 + 1, 1, none⟩ = some (.slice v.fa v.fn v.fc) ∧ w'.cell? ⟨w.heap.size + 1 + 1, 2, none⟩ = some (.slice v.sa v.sn v.sc)) (first | go_keep | assumption) (first | (go_at_call 45; refine Calls.mono (copy_any ⟨w.heap.size, 0, none⟩ sa n sc B _ ?_ hn4 hF4.out) ?_; (focus (refine hptr.out _ ?_; (repeat (first | with_reducible exact Below.refl _ _ | with_reducible exact bbO.out | with_reducible exact bbS.out | with_reducible refine bDr ?_ | with_reducible refine bAl ?_ _)); done)); rintro e wO ⟨bNew, gO, rfl, hgO, hO⟩; refine cutTo (le_of_chain (a := w2) ?_ hgO) ?_; (focus ((repeat (first | with_reducible exact Below.refl _ _ | with_reducible exact bbO.out | with_reducible exact bbS.out | with_reducible refine bDr ?_ | with_reducible refine bAl ?_ _)); done)); intro hg2; refine cutTo (A := Below w2.heap.size w2 wO) ?_ ?_; (focus (refine Below.tr ?_ bNew; (repeat (first | with_reducible exact Below.refl _ _ | with_reducible exact bbO.out | with_reducible exact bbS.out | with_reducible refine bDr ?_ | with_reducible refine bAl ?_ _)); done)); intro bTmp; have bbO := hid bTmp; clear bTmp; (first | (refine cutTo (CellsAt.below kaS.out (Below.tr ?_ bNew)) ?_; (focus ((repeat (first | with_reducible exact Below.refl _ _ | with_reducible refine bDr ?_ | with_reducible refine bAl ?_ _)); done)); intro kTmp; have kaO := hid kTmp; clear kTmp) | (refine cutTo (CellsAt.below (cellsAt_alloc wS #[.slice none 0 0] 24) (Below.tr ?_ bNew)) ?_; (focus ((repeat (first | with_reducible exact Below.refl _ _ | with_reducible refine bDr ?_ | with_reducible refine bAl ?_ _)); done)); intro kTmp; have kaO := hid kTmp; clear kTmp) | (refine cutTo (CellsAt.below (cellsAt_alloc2 wS obj0X #[.slice none 0 0] 24) (Below.tr ?_ bNew)) ?_; (focus ((repeat (first | with_reducible exact Below.refl _ _ | with_reducible refine bDr ?_ | with_reducible refine bAl ?_ _)); done)); intro kTmp; have kaO := hid kTmp; clear kTmp) | (refine cutTo (CellsAt.below (cellsAt_alloc w2 #[.slice none 0 0] 24) (Below.tr ?_ bNew)) ?_; (focus ((repeat (first | with_reducible exact Below.refl _ _ | with_reducible refine bDr ?_ | with_reducible refine bAl ?_ _)); done)); intro kTmp; have kaO := hid kTmp; clear kTmp) | (refine cutTo (CellsAt.below (cellsAt_alloc2 w2 obj0X #[.slice none 0 0] 24) (Below.tr ?_ bNew)) ?_; (focus ((repeat (first | with_reducible exact Below.refl _ _ | with_reducible refine bDr ?_ | with_reducible refine bAl ?_ _)); done)); intro kTmp; have kaO := hid kTmp; clear kTmp) | skip); (first | (refine cutTo (CellsAt.below kbS.out (Below.tr ?_ bNew)) ?_; (focus ((repeat (first | with_reducible exact Below.refl _ _ | with_reducible refine bDr ?_ | with_reducible refine bAl ?_ _)); done)); intro kTmp; have kbO := hid kTmp; clear kTmp) | (refine cutTo (CellsAt.below (cellsAt_alloc wS #[.string (ByteArray.mk #[]), .slice none 0 0, .slice none 0 0] 47) (Below.tr ?_ bNew)) ?_; (focus ((repeat (first | with_reducible exact Below.refl _ _ | with_reducible refine bDr ?_ | with_reducible refine bAl ?_ _)); done)); intro kTmp; have kbO := hid kTmp; clear kTmp) | (refine cutTo (CellsAt.below (cellsAt_alloc2 wS obj0S #[.string (ByteArray.mk #[]), .slice none 0 0, .slice none 0 0] 47) (Below.tr ?_ bNew)) ?_; (focus ((repeat (first | with_reducible exact Below.refl _ _ | with_reducible refine bDr ?_ | with_reducible refine bAl ?_ _)); done)); intro kTmp; have kbO := hid kTmp; clear kTmp) | (refine cutTo (CellsAt.below (cellsAt_alloc w2 #[.string (ByteArray.mk #[]), .slice none 0 0, .slice none 0 0] 47) (Below.tr ?_ bNew)) ?_; (focus ((repeat (first | with_reducible exact Below.refl _ _ | with_reducible refine bDr ?_ | with_reducible refine bAl ?_ _)); done)); intro kTmp; have kbO := hid kTmp; clear kTmp) | (refine cutTo (CellsAt.below (cellsAt_alloc2 w2 obj0S #[.string (ByteArray.mk #[]), .slice none 0 0, .slice none 0 0] 47) (Below.tr ?_ bNew)) ?_; (focus ((repeat (first | with_reducible exact Below.refl _ _ | with_reducible refine bDr ?_ | with_reducible refine bAl ?_ _)); done)); intro kTmp; have kbO := hid kTmp; clear kTmp) | skip); (try (refine cutTo (le_of_chain (a := wS) ?_ hgO) ?_; (focus ((repeat (first | with_reducible exact Below.refl _ _ | with_reducible refine bDr ?_ | with_reducible refine bAl ?_ _)); done)); intro hap; refine cutTo (A := Below wS.heap.size wS wO) ?_ ?_; (focus (refine Below.tr ?_ bNew; (repeat (first | with_reducible exact Below.refl _ _ | with_reducible refine bDr ?_ | with_reducible refine bAl ?_ _)); done)); intro bTmp; have cop := hid (cop_of (W := w2) hO hg2 (Below.refl _ _) hS.out hlo bTmp (.inr hap)); have bbL := bbO; have hszL := bTmp.size; clear bTmp)); have hszO := bbO.out.size; have m1O : w.heap.size + 1 + 1 ≠ wO.heap.size := (by omega); have m2O : w.heap.size + 1 ≠ wO.heap.size := (by omega); have m3O : w.heap.size ≠ wO.heap.size := (by omega); have m3O' := m3O.symm; have m1O' := m1O.symm; have m2O' := m2O.symm; have s0O := (bbO.out.cell (p := ⟨w.heap.size + 1 + 1, 0, none⟩) lx).trans S0.out; have s1O := (bbO.out.cell (p := ⟨w.heap.size + 1 + 1, 1, none⟩) lx).trans S1.out; have s2O := (bbO.out.cell (p := ⟨w.heap.size + 1 + 1, 2, none⟩) lx).trans S2.out; (try clear s0 s1 s2); (try (have lkaO := kaO.out.lt; have nkaO := Nat.ne_of_lt lkaO; have nkaO' := nkaO.symm; have caO := kaO.out.cell 0; have fraO := kaO.out.frozen 0; simp only [List.getElem?_toArray, List.getElem?_cons_zero] at caO)); (try (have lkbO := kbO.out.lt; have nkbO := Nat.ne_of_lt lkbO; have nkbO' := nkbO.symm; have cb0O := kbO.out.cell 0; have cb1O := kbO.out.cell 1; have cb2O := kbO.out.cell 2; have frb0O := kbO.out.frozen 0; have frb1O := kbO.out.frozen 1; have frb2O := kbO.out.frozen 2; simp only [List.getElem?_toArray, List.getElem?_cons_zero, List.getElem?_cons_succ] at cb0O cb1O cb2O)); (try clear s0S s1S s2S); (try clear caS fraS); (try clear cb0S cb1S cb2S frb0S frb1S frb2S); have hgz := hgO; (try simp only [sz_drew] at hgz); (try simp only [sz_alloc] at hgz); replace hO := hid hO; have hgl := hO.out.lt; clear bNew hgO) | (go_at_call 46; refine Calls.mono (copySet_lo Q v x _ ?_ hsh.out) ?_; (focus (refine hset.out _ ?_; (repeat (first | with_reducible exact Below.refl _ _ | with_reducible exact bbO.out | with_reducible exact bbS.out | with_reducible refine bDr ?_ | with_reducible refine bAl ?_ _)); done)); rintro e wS ⟨⟨u, ms, lo, rfl, hlz, hS⟩, bNew⟩; refine cutTo (le_of_chain (a := w2) ?_ hlz) ?_; (focus ((repeat (first | with_reducible exact Below.refl _ _ | with_reducible exact bbO.out | with_reducible exact bbS.out | with_reducible refine bDr ?_ | with_reducible refine bAl ?_ _)); done)); intro hlo; refine cutTo (A := Below w2.heap.size w2 wS) ?_ ?_; (focus (refine Below.tr ?_ bNew; (repeat (first | with_reducible exact Below.refl _ _ | with_reducible exact bbO.out | with_reducible exact bbS.out | with_reducible refine bDr ?_ | with_reducible refine bAl ?_ _)); done)); intro bTmp; have bbS := hid bTmp; clear bTmp; (first | (refine cutTo (CellsAt.below kaO.out (Below.tr ?_ bNew)) ?_; (focus ((repeat (first | with_reducible exact Below.refl _ _ | with_reducible refine bDr ?_ | with_reducible refine bAl ?_ _)); done)); intro kTmp; have kaS := hid kTmp; clear kTmp) | (refine cutTo (CellsAt.below (cellsAt_alloc wO #[.slice none 0 0] 24) (Below.tr ?_ bNew)) ?_; (focus ((repeat (first | with_reducible exact Below.refl _ _ | with_reducible refine bDr ?_ | with_reducible refine bAl ?_ _)); done)); intro kTmp; have kaS := hid kTmp; clear kTmp) | (refine cutTo (CellsAt.below (cellsAt_alloc2 wO obj0X #[.slice none 0 0] 24) (Below.tr ?_ bNew)) ?_; (focus ((repeat (first | with_reducible exact Below.refl _ _ | with_reducible refine bDr ?_ | with_reducible refine bAl ?_ _)); done)); intro kTmp; have kaS := hid kTmp; clear kTmp) | (refine cutTo (CellsAt.below (cellsAt_alloc w2 #[.slice none 0 0] 24) (Below.tr ?_ bNew)) ?_; (focus ((repeat (first | with_reducible exact Below.refl _ _ | with_reducible refine bDr ?_ | with_reducible refine bAl ?_ _)); done)); intro kTmp; have kaS := hid kTmp; clear kTmp) | (refine cutTo (CellsAt.below (cellsAt_alloc2 w2 obj0X #[.slice none 0 0] 24) (Below.tr ?_ bNew)) ?_; (focus ((repeat (first | with_reducible exact Below.refl _ _ | with_reducible refine bDr ?_ | with_reducible refine bAl ?_ _)); done)); intro kTmp; have kaS := hid kTmp; clear kTmp) | skip); (first | (refine cutTo (CellsAt.below kbO.out (Below.tr ?_ bNew)) ?_; (focus ((repeat (first | with_reducible exact Below.refl _ _ | with_reducible refine bDr ?_ | with_reducible refine bAl ?_ _)); done)); intro kTmp; have kbS := hid kTmp; clear kTmp) | (refine cutTo (CellsAt.below (cellsAt_alloc wO #[.string (ByteArray.mk #[]), .slice none 0 0, .slice none 0 0] 47) (Below.tr ?_ bNew)) ?_; (focus ((repeat (first | with_reducible exact Below.refl _ _ | with_reducible refine bDr ?_ | with_reducible refine bAl ?_ _)); done)); intro kTmp; have kbS := hid kTmp; clear kTmp) | (refine cutTo (CellsAt.below (cellsAt_alloc2 wO obj0S #[.string (ByteArray.mk #[]), .slice none 0 0, .slice none 0 0] 47) (Below.tr ?_ bNew)) ?_; (focus ((repeat (first | with_reducible exact Below.refl _ _ | with_reducible refine bDr ?_ | with_reducible refine bAl ?_ _)); done)); intro kTmp; have kbS := hid kTmp; clear kTmp) | (refine cutTo (CellsAt.below (cellsAt_alloc w2 #[.string (ByteArray.mk #[]), .slice none 0 0, .slice none 0 0] 47) (Below.tr ?_ bNew)) ?_; (focus ((repeat (first | with_reducible exact Below.refl _ _ | with_reducible refine bDr ?_ | with_reducible refine bAl ?_ _)); done)); intro kTmp; have kbS := hid kTmp; clear kTmp) | (refine cutTo (CellsAt.below (cellsAt_alloc2 w2 obj0S #[.string (ByteArray.mk #[]), .slice none 0 0, .slice none 0 0] 47) (Below.tr ?_ bNew)) ?_; (focus ((repeat (first | with_reducible exact Below.refl _ _ | with_reducible refine bDr ?_ | with_reducible refine bAl ?_ _)); done)); intro kTmp; have kbS := hid kTmp; clear kTmp) | skip); (try (refine cutTo (le_of_chain (a := wO) ?_ hlz) ?_; (focus ((repeat (first | with_reducible exact Below.refl _ _ | with_reducible refine bDr ?_ | with_reducible refine bAl ?_ _)); done)); intro hap; refine cutTo (A := Below wO.heap.size wO wS) ?_ ?_; (focus (refine Below.tr ?_ bNew; (repeat (first | with_reducible exact Below.refl _ _ | with_reducible refine bDr ?_ | with_reducible refine bAl ?_ _)); done)); intro bTmp; have cop := hid (cop_of (W := w2) hO.out hg2 bTmp hS hlo (Below.refl _ _) (.inl hap)); have bbL := bbS; have hszL := bTmp.size; clear bTmp)); have hszS := bbS.out.size; have m1S : w.heap.size + 1 + 1 ≠ wS.heap.size := (by omega); have m2S : w.heap.size + 1 ≠ wS.heap.size := (by omega); have m3S : w.heap.size ≠ wS.heap.size := (by omega); have m3S' := m3S.symm; have m1S' := m1S.symm; have m2S' := m2S.symm; have s0S := (bbS.out.cell (p := ⟨w.heap.size + 1 + 1, 0, none⟩) lx).trans S0.out; have s1S := (bbS.out.cell (p := ⟨w.heap.size + 1 + 1, 1, none⟩) lx).trans S1.out; have s2S := (bbS.out.cell (p := ⟨w.heap.size + 1 + 1, 2, none⟩) lx).trans S2.out; (try clear s0 s1 s2); (try (have lkaS := kaS.out.lt; have nkaS := Nat.ne_of_lt lkaS; have nkaS' := nkaS.symm; have caS := kaS.out.cell 0; have fraS := kaS.out.frozen 0; simp only [List.getElem?_toArray, List.getElem?_cons_zero] at caS)); (try (have lkbS := kbS.out.lt; have nkbS := Nat.ne_of_lt lkbS; have nkbS' := nkbS.symm; have cb0S := kbS.out.cell 0; have cb1S := kbS.out.cell 1; have cb2S := kbS.out.cell 2; have frb0S := kbS.out.frozen 0; have frb1S := kbS.out.frozen 1; have frb2S := kbS.out.frozen 2; simp only [List.getElem?_toArray, List.getElem?_cons_zero, List.getElem?_cons_succ] at cb0S cb1S cb2S)); (try clear s0O s1O s2O); (try clear caO fraO); (try clear cb0O cb1O cb2O frb0O frb1O frb2O); (try simp only [sz_drew] at hlz); (try simp only [sz_alloc] at hlz); replace hS := hid hS; clear bNew))
    all_goals (go_wp2_with fail; go_meet; first
      | (with_reducible refine gotd_cab cop.out ?_ bbL.out; all_goals (first | omega | (intro f; rcases f with f | f <;> omega) | (intro b f; rcases f with f | f <;> omega)))
      | (with_reducible refine gotd_cba cop.out ?_ bbL.out; all_goals (first | omega | (intro f; rcases f with f | f <;> omega) | (intro b f; rcases f with f | f <;> omega)))
      | (with_reducible refine gotd_acb ?_ ?_ kaS.out cop.out ?_ bbL.out; all_goals (first | omega | (intro f; rcases f with f | f <;> omega) | (intro b f; rcases f with f | f <;> omega)))
      | (with_reducible refine gotd_bca ?_ ?_ kbS.out cop.out ?_ bbL.out; all_goals (first | omega | (intro f; rcases f with f | f <;> omega) | (intro b f; rcases f with f | f <;> omega)))
      | (with_reducible refine gotd_abc ?_ ?_ ?_ ?_ ?_ kaS.out kbS.out cop.out bbL.out; all_goals (first | omega | (intro f; rcases f with f | f <;> omega) | (intro b f; rcases f with f | f <;> omega)))
      | (with_reducible refine gotd_acb ?_ ?_ kaO.out cop.out ?_ bbL.out; all_goals (first | omega | (intro f; rcases f with f | f <;> omega) | (intro b f; rcases f with f | f <;> omega)))
      | (with_reducible refine gotd_bca ?_ ?_ kbO.out cop.out ?_ bbL.out; all_goals (first | omega | (intro f; rcases f with f | f <;> omega) | (intro b f; rcases f with f | f <;> omega)))
      | (with_reducible refine gotd_abc ?_ ?_ ?_ ?_ ?_ kaO.out kbO.out cop.out bbL.out; all_goals (first | omega | (intro f; rcases f with f | f <;> omega) | (intro b f; rcases f with f | f <;> omega))))
  case rest =>
    obtain ⟨ob, yb, g, v2, ms2, P, rfl, rfl, hT, bC, lo, ly, lg⟩ := hcut
    have hP0 := hid (two_ap (kb := w.heap.size + 1) (key := key) hT (heb.out.bK.below bC) heb.out.bK.lt lo ly bC.size)
    clear S0 S1 S2 s0 s1 s2 m1 m2 m1' m2' m3 m3' hptr hset lx hT hF4
    have bC' := hid bC
    go_wp2_with fail
    go_loopw [34] (fun s wr => ∃ (i g' : Nat) (D : Nat → Blk) (u : SetV) (y : SetE), i ≤ ln ∧ s = .int .i64 i ∧ Below w2.heap.size w2 wr ∧ AP w2.heap.size wr ob (w.heap.size + 1) yb key g' n D u y ∧ Steps n key 999510 B x (((ls.map (·.e)).take i).flatMap asksOf) D y ∧ Std n key B x D y) (fun s _ => ln - (Go.RowKit.intOf s).toNat)
    case atStart => exact ⟨0, g, B, v2, x, Nat.zero_le _, rfl, bC, hP0.out, by simpa using Steps.nil, hstd.out⟩
    case round =>
      clear bC hP0
      obtain ⟨i, g', D, u, y, hin, rfl, bw, hP, hSt, hSd⟩ := hrel
      by_cases hlt : i < ln
      · have bww := heb.out.bel.trans (bw.mono heb.out.bel.size)
        have hLi := hL.out.below bww
        have hil : i < ls.length := by omega
        obtain ⟨b, off, hla, hb, hc4⟩ := hLi.2.2 (by omega)
        have hme : ls[i]? = some ls[i] := List.getElem?_eq_getElem hil
        obtain ⟨c0, c1, c2, c3⟩ := hc4 i _ hme
        have hAt := hLi.2.1 _ (List.getElem_mem hil)
        have hnx : Hid (((ls.map (·.e)).take (i + 1)).flatMap asksOf = ((ls.map (·.e)).take i).flatMap asksOf ++ asksOf ls[i].e) := hid (flat_next (by rw [List.getElem?_map, hme]; rfl))
        have hmm := hid (List.mem_map_of_mem (f := fun x : DifM => x.e) (List.getElem_mem hil))
        have hspl : Hid ((ls.map (·.e)).flatMap asksOf = ((ls.map (·.e)).take (i + 1)).flatMap asksOf ++ ((ls.map (·.e)).drop (i + 1)).flatMap asksOf) := hid (by rw [← List.flatMap_append, List.take_append_drop])
        subst hla
        clear hLi hc4 hme
        generalize ls[i] = m at *
        obtain ⟨d, ba, bn, bc⟩ := m
        simp only at c0 c1 c2 c3
        have bA := below_alloc wr (.cells #[.int .i64 d.kind, .string d.name, .int .i64 d.num, .slice ba bn bc] 104)
        have hPA := hid (hP.below bA)
        have hAtA := hid (hAt.below bA)
        replace bA := hid bA
        replace hP := hid hP
        replace hAt := hid hAt
        replace hSt := hid hSt
        replace hSd := hid hSd
        replace bw := hid bw
        replace bww := hid bww
        go_wp2_with fail
        refine (schange_any w2.heap.size ob (w.heap.size + 1) yb key g' n B D u x y _ d ba bn bc _ hPA.out hAtA.out hSt.out hSd.out).mono ?_
        rintro e w5 ⟨on5, e5, rfl, hcase⟩
        have b5 := hid ((bw.out.trans (bA.out.mono bw.out.size)).trans (on5.below (fun k mm => by omega) (Nat.le_trans bw.out.size bA.out.size)))
        have heb5 := hid (heb.out.below b5.out)
        clear on5 c0 c1 c2 c3
        rcases hcase with ⟨h2, h3⟩ | ⟨h2, g2, D2, u2, y2, hS2, hT2, hA2⟩
        · have g0 : (e5 == 0) = false := by simp [h2]
          have q1 := heb5.out.r8.cell 0
          have q2 := heb5.out.r8.frozen 0
          have q3 := heb5.out.r9.cell 0
          have q4 := heb5.out.r9.frozen 0
          have q5 := heb5.out.r9.cell 1
          have q6 := heb5.out.r9.frozen 1
          have q7 := heb5.out.r9.cell 2
          have q8 := heb5.out.r9.frozen 2
          simp at q1 q3 q5 q7
          replace h3 := hid h3
          go_wp2_with fail
          refine bodyPost_ret (v := .tuple #[.agg #[.slice none 0 0], .agg #[.string (ByteArray.mk #[]), .slice none 0 0, .slice none 0 0], .int .i64 e5]) (by rw [results_cells2 rfl]; go_simp) rfl ⟨heb5.out.put (.slice none 0 0) ⟨(ByteArray.mk #[]), none, 0, 0, none, 0, 0⟩, .inl ⟨e5, rfl, h2, fun _ _ f3 => .inr ?_⟩⟩
          have h4 := h3.out (f3 d hmm.out)
          rw [← hnx.out] at h4
          rw [hspl.out]
          exact h4.more
        · subst h2
          replace hS2 := hid hS2
          replace hT2 := hid hT2
          replace hA2 := hid hA2
          go_wp2_with fail
          go_roundw
          case rel => exact ⟨i + 1, g2, D2, u2, y2, by omega, by go_num, b5.out, hA2.out, by rw [hnx.out]; exact hS2.out, hT2.out⟩
          case measure => simp [Go.RowKit.intOf]; omega
      · obtain rfl : i = ln := by omega
        have htk : (ls.map (·.e)).take i = ls.map (·.e) := List.take_of_length_le (by rw [List.length_map]; omega)
        rw [htk] at hSt
        have heb5 := hid (heb.out.below bw)
        have hsz2 := heb.out.sz
        have o0 := hP.o.cell 0
        have x0 := hP.x.cell 0
        have x1 := hP.x.cell 1
        have x2 := hP.x.cell 2
        have q1 := heb5.out.r8.cell 0
        have q2 := heb5.out.r8.frozen 0
        have q3 := heb5.out.r9.cell 0
        have q4 := heb5.out.r9.frozen 0
        have q5 := heb5.out.r9.cell 1
        have q6 := heb5.out.r9.frozen 1
        have q7 := heb5.out.r9.cell 2
        have q8 := heb5.out.r9.frozen 2
        simp at o0 x0 x1 x2 q1 q3 q5 q7
        have n1 : ob ≠ w.heap.size + 1 + 1 + 1 := by omega
        have n2 : ob ≠ w.heap.size + 1 + 1 + 1 + 1 := by omega
        have n3 : yb ≠ w.heap.size + 1 + 1 + 1 := by omega
        have n4 : yb ≠ w.heap.size + 1 + 1 + 1 + 1 := by omega
        have n1' := n1.symm
        have n2' := n2.symm
        have n3' := n3.symm
        have n4' := n4.symm
        have J : Hid (RetAp w n B key x (ls.map (·.e)) (.returned (.tuple #[.agg #[.slice (some ⟨g', 0, none⟩) n n], .agg #[.string u.name, .slice u.fa u.fn u.fc, .slice u.sa u.sn u.sc], .int .i64 0])) (putX (wr.setCell ⟨w.heap.size + 1 + 1 + 1, 0, none⟩ (.slice (some ⟨g', 0, none⟩) n n)) (w.heap.size + 1 + 1 + 1 + 1) u)) := hid (by
          have k1 := kept_putS wr (w.heap.size + 1 + 1 + 1) (.slice (some ⟨g', 0, none⟩) n n)
          have k2 := kept_putX (wr.setCell ⟨w.heap.size + 1 + 1 + 1, 0, none⟩ (.slice (some ⟨g', 0, none⟩) n n)) (w.heap.size + 1 + 1 + 1 + 1) u
          have on := (Only.of_kept (M := fun k => k = w.heap.size + 1 + 1 + 1 ∨ k = w.heap.size + 1 + 1 + 1 + 1) k1 (.inl rfl)).trans (Only.of_kept (M := fun k => k = w.heap.size + 1 + 1 + 1 ∨ k = w.heap.size + 1 + 1 + 1 + 1) k2 (.inr rfl))
          have hl := hP.lo.1
          refine ⟨heb5.out.put _ u, .inr ⟨g', D, u, y, rfl, hSt, hSd, (own_only hP.own on (fun b _ mm => by omega)).store, ?_⟩⟩
          exact (((hP.se.kept (fun k q => by omega) k1).kept (fun k q => by omega) k2)).weaken (fun _ _ _ => trivial))
        replace hP := hid hP
        replace hSt := hid hSt
        replace hSd := hid hSd
        replace bw := hid bw
        go_upto_region 13 with fail
        go_region
        all_goals (
          go_wp2_with fail
          refine bodyPost_ret (v := .tuple #[.agg #[.slice (some ⟨g', 0, none⟩) n n], .agg #[.string u.name, .slice u.fa u.fn u.fc, .slice u.sa u.sn u.sc], .int .i64 0]) (by rw [results_cells2 rfl]; go_simp) rfl ?_
          first
            | exact J.out
            | exact J.out.drew)
end Go.Proofs.YtnmcgmpmcliinaaGreat
