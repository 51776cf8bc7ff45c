/-
  Sto2, Stored, Back1, Clo, Reach1, Iter, Reach2, StoreFreesWalk in one text. Nothing here is trusted.
-/
import Derived.Test.YtnmcgmpmcliinaaGreatPart03
import Derived.Laws.BytesArg
import Derived.Maps.Own
import Derived.Maps.OwnOps
import Derived.Lib.SlKeysI
import Derived.Shelf.SlIterI.Nil
import Derived.Shelf.SortM.Plain
import Derived.Shelf.SortM.SortNone
import Derived.Ground.GgzProg
import Derived.Ground.SlgmProg
import Derived.Test.YtnmcgmpmcliinaaGreatRows
import Derived.Maps.Views
set_option linter.unusedVariables false
namespace Go.Proofs.YtnmcgmpmcliinaaGreat
theorem kid_free {n : Nat} {B : Nat → Blk} {K : Blk} {i : Nat} (hF : Form n B { K with refs := 1 }) (h0 : (B i).refs = 0) : K.kids.count ((i : Int) + 1) = 0 := by
  apply List.count_eq_zero.2
  intro hm
  rcases hF.kids _ hm with h | ⟨⟨_, _, h⟩, _⟩
  · omega
  · rw [show ((i : Int) + 1 - 1).toNat = i by omega] at h; exact h h0
theorem made_same (B : Nat → Blk) (K : Blk) (i : Nat) : made B K i i = { K with refs := 1 } := by simp [made]
theorem made_other (B : Nat → Blk) (K : Blk) {i k : Nat} (h : k ≠ i) : made B K i k = { B k with refs := (B k).refs + (K.kids.count ((k : Int) + 1) : Int) } := by simp [made, h]
theorem among_made {n : Nat} {B : Nat → Blk} {K : Blk} {i : Nat} (hi : i < n) (hz : Form n B (B i)) (h0 : (B i).refs = 0) (x : Int) : among n (made B K i) x = among n B x + K.kids.count x := by
  have h1 : among n (made B K i) x = among n (upd B i { K with refs := 1 }) x := among_congr x fun k hk => by
    by_cases e : k = i
    · subst e; rw [made_same, upd_same]
    · rw [made_other _ _ e, upd_other _ _ _ _ e]
  have h2 := among_upd (n := n) (B := B) (i := i) { K with refs := 1 } x hi
  rw [hz.zero h0] at h2
  have h3 : Blk.zero.kids.count x = 0 := by simp [Blk.zero]
  rw [h3] at h2
  rw [h1]
  simpa using h2
theorem outs_made {n : Nat} {B : Nat → Blk} {K : Blk} {i : Nat} (hR : Right n B) (hF : Form n B { K with refs := 1 }) (hi : i < n) (h0 : (B i).refs = 0) (k : Nat) (hk : k < n) : outs n (made B K i) k = if k = i then 1 else outs n B k := by
  have hm := among_made (K := K) hi (hR.one i hi) h0 ((k : Int) + 1)
  unfold outs
  by_cases e : k = i
  · subst e
    have h1 := hR.held k hk
    have h2 := kid_free hF h0
    simp at h1
    rw [made_same, if_pos rfl, hm, h2]
    show (1 : Int) - _ = 1
    omega
  · rw [made_other _ _ e, if_neg e, hm]
    show (B k).refs + _ - _ = _
    omega
theorem right_made {n : Nat} {B : Nat → Blk} {K : Blk} {i : Nat} (hR : Right n B) (hF : Form n B { K with refs := 1 }) (hi : i < n) (h0 : (B i).refs = 0) (hm : ∀ k, k < n → (made B K i k).refs ≤ 1000000) : Right n (made B K i) := by
  have hth : ∀ x, There n B x → There n (made B K i) x ∧ (made B K i (x - 1).toNat).level = (B (x - 1).toNat).level := by
    intro x ⟨x1, x2, x3⟩
    have hne : (x - 1).toNat ≠ i := fun e => x3 (by rw [e]; exact h0)
    have hb := (hR.one _ (ix x1 x2).1).bounds
    refine ⟨⟨x1, x2, ?_⟩, by rw [made_other _ _ hne]⟩
    rw [made_other _ _ hne]
    show (B (x - 1).toNat).refs + _ ≠ 0
    omega
  refine ⟨hR.small, fun k hk => ?_, fun k hk => ?_, by simp⟩
  · by_cases e : k = i
    · subst e
      rw [made_same]
      exact hF.turn rfl rfl rfl (.inl rfl) fun x _ => hth x
    · have hb := (hR.one k hk).bounds
      have hmk := hm k hk
      refine (hR.one k hk).turn (by rw [made_other _ _ e]) (by rw [made_other _ _ e]) (by rw [made_other _ _ e]) ?_ fun x _ => hth x
      rw [made_other _ _ e] at hmk ⊢
      by_cases e0 : (B k).refs = 0
      · have := kid_free hF e0
        left
        show (B k).refs + _ = _
        omega
      · right
        refine ⟨e0, ?_, hmk⟩
        show 1 ≤ (B k).refs + _
        omega
  · have h1 := outs_made hR hF hi h0 k hk
    have h2 := hR.held k hk
    simp at h2 ⊢
    unfold outs at h1
    split at h1 <;> omega
theorem right_zero (n : Nat) (hn : n ≤ 400) : Right n (fun _ => Blk.zero) := by
  refine ⟨hn, fun i _ => form_zero _ _, fun i hi => ?_, by simp⟩
  have : among n (fun _ => Blk.zero) ((i : Int) + 1) = 0 := by
    have := among_le (n := n) (B := fun _ => Blk.zero) ((i : Int) + 1)
    unfold among
    rw [sumTo_congr (g := fun _ => 0) (fun k _ => by simp [Blk.zero])]
    clear this hi hn
    induction n with
    | zero => rfl
    | succ n ih => simp [sumTo, ih]
  rw [this]
  simp [Blk.zero]
theorem outs_zero (n k : Nat) : outs n (fun _ => Blk.zero) k = 0 := by
  unfold outs among
  rw [sumTo_congr (g := fun _ => 0) (fun k _ => by simp [Blk.zero])]
  have : sumTo (fun _ => 0) n = 0 := by
    induction n with
    | zero => rfl
    | succ n ih => simp [sumTo, ih]
  rw [this]
  simp [Blk.zero]
def leafK : Blk := ⟨0, 0, [], [1, 2, 3, 4]⟩
def nodeK : Blk := ⟨0, 1, [0, 1, 0, 1], []⟩
def B1 : Nat → Blk := made (fun _ => Blk.zero) leafK 0
def B2 : Nat → Blk := made B1 nodeK 1
theorem Fell.outs {n : Nat} {B C : Nat → Blk} {T : List Int} (h : Fell n B C T) (k : Nat) (hk : k < n) : outs n C k = outs n B k - (T.count ((k : Int) + 1) : Int) := h.out k hk
theorem droppable_of {n : Nat} {B : Nat → Blk} (hR : Right n B) {i : Nat} (hi : i < n) (ho : 0 < outs n B i) : Droppable n B ((i : Int) + 1) := by
  have e : ((i : Int) + 1 - 1).toNat = i := by omega
  unfold Droppable There
  rw [e]
  unfold outs at ho
  exact ⟨hR, ⟨by omega, by omega, by omega⟩, by omega⟩
end Go.Proofs.YtnmcgmpmcliinaaGreat

namespace Go.Proofs.YtnmcgmpmcliinaaGreat
open Go.RowKit
set_option maxHeartbeats 1000000 in
set_option maxRecDepth 100000 in
theorem equalInts_same (a1 a2 : Option Addr) (n c d : Nat) (Q1 Q2 : Nat → Prop) (xs : List Int) (w : World) (hn : n ≤ 1000) (h1 : NumsAt Q1 .i64 w a1 n xs) (h2 : NumsAt Q2 .i64 w a2 n xs) :
    Calls Tryz.prog 105 #[.slice a1 n c, .slice a2 n d] w fun e w' => e = .returned (.bool true) ∧ ∃ q, w' = w.drewN q := by
  replace h1 := hid h1
  replace h2 := hid h2
  go_enter Tryz.func105, Tryz.ntmps105
  go_wp2
  go_loopw [13] (fun i wr => ∃ k q : Nat, k ≤ n ∧ i = .int .i64 k ∧ wr = w.drewN q) (fun i _ => n - (Go.RowKit.intOf i).toNat)
  case atStart => exact ⟨0, 0, Nat.zero_le _, rfl, rfl⟩
  case round =>
    obtain ⟨k, q, hk, rfl, rfl⟩ := hrel
    by_cases hlt : k < n
    · obtain ⟨b1, o1, rfl, _, _, hc1⟩ := h1.out.2.2 (by omega)
      obtain ⟨b2, o2, rfl, _, _, hc2⟩ := h2.out.2.2 (by omega)
      have g1 := hc1 k (by omega)
      have g2 := hc2 k (by omega)
      clear hc1 hc2 h1 h2
      generalize xs.getD k 0 = x at *
      go_wp2_with fail
      go_quiet (fail)
      go_wp2
      go_roundw
      case rel => exact ⟨k + 1, q + nq, by omega, by go_num, rfl⟩
      case measure => simp [Go.RowKit.intOf]; omega
    · have : k = n := by omega
      subst this
      clear h1 h2
      go_wp2
      go_ret
      exact ⟨rfl, q, rfl⟩
theorem Row.nums {w : World} {base g n : Nat} {f : Nat → Int} (r : Row w base g n f) (hf : ∀ k, k < n → -9223372036854775808 ≤ f k ∧ f k ≤ 9223372036854775807) : NumsAt (fun b => base ≤ b) .i64 w (some ⟨g, 0, none⟩) n ((List.range n).map f) := by
  refine ⟨by simp, ?_, fun hn => ⟨g, 0, rfl, r.lt.2, r.lt.1, fun i hi => ?_⟩⟩
  · intro x hx
    simp only [List.mem_map, List.mem_range] at hx
    obtain ⟨k, hk, rfl⟩ := hx
    exact WalkArith.wf_i64 (hf k hk)
  · rw [Nat.zero_add, r.cell hi]
    simp [List.getD, hi]
end Go.Proofs.YtnmcgmpmcliinaaGreat

namespace Go.Proofs.YtnmcgmpmcliinaaGreat
open Go.RowKit
def Keepable (n : Nat) (B : Nat → Blk) (a : Int) : Prop := Right n B ∧ There n B a
def keptB (B : Nat → Blk) (a : Int) : Nat → Blk := upd B (a - 1).toNat { B (a - 1).toNat with refs := (B (a - 1).toNat).refs + 1 }
def Keeped (e : Ending) (w : World) (p : Addr) (g n : Nat) (B : Nat → Blk) (a : Int) (w' : World) : Prop :=
  (∃ e' : Int, e = .returned (.int .i64 e') ∧ e' ≠ 0 ∧ ¬ Keepable n B a) ∨ (e = .returned (.int .i64 0) ∧ Keepable n B a ∧ ∃ C, OwnPtr w' p g n C ∧ C = keptB B a)
set_option maxHeartbeats 1000000 in
set_option maxRecDepth 100000 in
theorem keep_any (p : Addr) (g n : Nat) (B : Nat → Blk) (a : Int) (w : World) (h : OwnPtr w p g n B) :
    Calls Tryz.prog 173 #[.pointer (some p), .int .i64 a] w fun e w' => Keeped e w p g n B a w' ∧ Out g w w' := by
  go_enter Tryz.func173, Tryz.ntmps173
  go_wp2_with fail
  refine (checkThere_any p _ n n B a w h.ptr).mono ?_
  rintro e w1 ⟨⟨e', rfl, he⟩, b1⟩
  replace h := h.below b1
  replace he := hid he
  by_cases h0 : e' = 0
  · have h0' : (e' == 0) = true := by simp [h0]
    obtain ⟨hR, ht⟩ := he.out.1 h0
    obtain ⟨i, rfl⟩ : ∃ i : Nat, a = (i : Int) + 1 := ⟨(a - 1).toNat, by have := ht.1; omega⟩
    have ei : ((i : Int) + 1 - 1).toNat = i := by omega
    have hi : i < n := by have := ht.2.1; omega
    have hn := hR.small
    have hbd := (hR.one i hi).bounds
    obtain ⟨ka, kn, kc, ba, bn, bc, hbk⟩ := h.own.cell hi
    have c0 := hbk.c0
    have f0 := h.own.free (i * 4) (by omega)
    have s1 := h.cell
    have J : Hid (∀ w', w' = w1.setCell ⟨g, i * 4, none⟩ (.int .i64 ((B i).refs + 1)) → OwnPtr w' p g n (keptB B ((i : Int) + 1)) ∧ Out g w w') := hid (by
      intro w' hw
      subst hw
      have kk := Kept.setCell (g := g) (Kept.refl _ w1) (p := ⟨g, i * 4, none⟩) rfl (.int .i64 ((B i).refs + 1))
      refine ⟨h.kept kk ?_, (Out.of_below b1).trans (Out.of_kept kk)⟩
      unfold keptB
      rw [ei]
      exact h.own.refs hi _ (by omega))
    replace hR := hid hR
    replace ht := hid ht
    clear hbk h
    generalize (B i).refs = rf at *
    go_wp2_with fail
    refine (at_own p g n n i _ hn s1 hi).mono ?_
    rintro e w2 ⟨rfl, rfl⟩
    go_wp2_with fail
    go_ret
    exact ⟨.inr ⟨rfl, ⟨hR.out, ht.out⟩, _, (J.out _ rfl).1, rfl⟩, (J.out _ rfl).2⟩
  · have h0' : (e' == 0) = false := by simp [h0]
    replace h := hid h
    go_wp2_with fail
    go_ret
    exact ⟨.inl ⟨e', rfl, h0, fun f => h0 (he.out.2 f)⟩, Out.of_below b1⟩
theorem run_string_of {Q : Nat → Prop} (w : World) {a : Option Addr} {n : Nat} {l : List Int} (c : Nat) (h : NumsAt Q .u8 w a n l) :
    (convert 28 9 (.slice a n c)).run Tryz.prog w = .ok (.string (strOfNums l)) w := by
  rcases Nat.eq_zero_or_pos n with hn | hn
  · subst hn
    obtain rfl : l = [] := List.eq_nil_of_length_eq_zero h.1
    rw [run_convert_bytes_string w 28 9 5 _ 0 c Tryz.underlying28 Tryz.underlying5 Tryz.underlying9]
    cases a <;> simp [Conv.bytesToString, loadCells]
    all_goals rfl
  · obtain ⟨b, off, rfl, _, _, hc⟩ := h.2.2 hn
    exact run_convert_bytes_arg w 28 5 Tryz.underlying28 Tryz.underlying5 b off n c l h.1 hc 9 Tryz.underlying9
theorem bytesEqual_same (a1 a2 : Option Addr) (n c m d : Nat) (Q1 Q2 : Nat → Prop) (l : List Int) (w : World) (h1 : NumsAt Q1 .u8 w a1 n l) (h2 : NumsAt Q2 .u8 w a2 m l) :
    Calls Tryz.prog 20 #[.slice a1 n c, .slice a2 m d] w fun e w' => e = .returned (.bool true) ∧ w' = w := by
  have g1 := run_string_of w c h1
  have g2 := run_string_of w d h2
  clear h1 h2
  go_enter Tryz.func20, Tryz.ntmps20
  go_wp2
  go_ret
  exact ⟨by simp, rfl⟩
end Go.Proofs.YtnmcgmpmcliinaaGreat

namespace Go.Proofs.YtnmcgmpmcliinaaGreat
open Go.RowKit Go.Maps
def Clo (B : Nat → Blk) (l : List Int) (x : Int) : Prop :=
  ∀ S : Int → Prop, (∀ r ∈ l, r ≠ 0 → S r) → (∀ y, S y → ∀ k ∈ (B (y - 1).toNat).kids, k ≠ 0 → S k) → S x
theorem Clo.root {B : Nat → Blk} {l : List Int} {x : Int} (h : x ∈ l) (h0 : x ≠ 0) : Clo B l x := fun S h1 _ => h1 x h h0
theorem Clo.kid {B : Nat → Blk} {l : List Int} {x k : Int} (h : Clo B l x) (hk : k ∈ (B (x - 1).toNat).kids) (h0 : k ≠ 0) : Clo B l k := fun S h1 h2 => h2 x (h S h1 h2) k hk h0
theorem Clo.mono {B : Nat → Blk} {l m : List Int} {x : Int} (h : Clo B l x) (hs : ∀ r ∈ l, r ≠ 0 → Clo B m r) : Clo B m x :=
  h _ hs fun y hy k hk h0 => hy.kid hk h0
theorem Clo.nil {B : Nat → Blk} {x : Int} (h : Clo B [] x) : False := h (fun _ => False) (by simp) (by simp)
def RootsOk (n : Nat) (B : Nat → Blk) (l : List Int) : Prop := ∀ r ∈ l, r = 0 ∨ There n B r
theorem Clo.there {n : Nat} {B : Nat → Blk} {l : List Int} {x : Int} (hR : Right n B) (hl : RootsOk n B l) (h : Clo B l x) : There n B x := by
  refine h (There n B) (fun r hr h0 => (hl r hr).resolve_left h0) fun y hy k hk h0 => ?_
  rcases (hR.one _ (ix hy.1 hy.2.1).1).kids k hk with h | ⟨h, _⟩
  · exact absurd h h0
  · exact h
theorem pigeon : ∀ (n : Nat) (V : List Int), V.Nodup → (∀ x ∈ V, 1 ≤ x ∧ x ≤ n) → V.length ≤ n
  | 0, V, _, h => by
    cases V with
    | nil => simp
    | cons x r => have := h x (by simp); omega
  | n + 1, V, hn, h => by
    by_cases hm : ((n : Int) + 1) ∈ V
    · have h1 := pigeon n (V.erase ((n : Int) + 1)) (hn.erase _) (fun x hx => by
        have hx' := (hn.mem_erase_iff).1 hx
        have := h x hx'.2
        have := hx'.1
        omega)
      have h2 := List.length_erase_of_mem hm
      have h3 : 0 < V.length := List.length_pos_of_mem hm
      omega
    · have := pigeon n V hn (fun x hx => by
        have h1 := h x hx
        have : x ≠ (n : Int) + 1 := fun e => hm (e ▸ hx)
        omega)
      omega
theorem law3 : Keyed Tryz.prog 3 := int_keyed Tryz.underlying3
theorem zeroInt (w : World) : (zeroValue 3).run Tryz.prog w = .ok (.int .i64 0) w := by kernel_rfl
def Seen (w : World) (b : Nat) (V : List Int) : Prop :=
  ∃ D : DataW Unit, w.ownsMap Tryz.prog 3 (plainElem Tryz.prog 3) b V.length D ∧ IsMap D ∧ V.Nodup ∧ (∀ x, x ∈ V ↔ has D (.int .i64 x) = true) ∧ ∀ x ∈ V, ∀ z, D.atKey (.int .i64 x) z = .lit (.int .i64 1)
theorem Seen.out {w w' : World} {b : Nat} {V : List Int} (h : Seen w b V) (hb : w'.heap[b]? = w.heap[b]?) : Seen w' b V := by
  obtain ⟨D, ⟨es, clock, h1, h2, h3, h4⟩, r⟩ := h
  exact ⟨D, ⟨es, clock, hb.trans h1, h2, h3, h4⟩, r⟩
theorem isKeyLit_int (x : Int) : WideAt.IsKeyLit (.int .i64 x) := by first | exact ⟨_, _, rfl⟩ | trivial | (unfold WideAt.IsKeyLit; simp)
theorem seen_put {D : DataW Unit} {V : List Int} {x : Int} (hD : IsMap D) (hn : V.Nodup) (hx : x ∉ V) (hm : ∀ x, x ∈ V ↔ has D (.int .i64 x) = true) (ha : ∀ x ∈ V, ∀ z, D.atKey (.int .i64 x) z = .lit (.int .i64 1)) :
    IsMap (D.put (.int .i64 x) (.lit (.int .i64 1))) ∧ (V ++ [x]).Nodup ∧ (∀ y, y ∈ V ++ [x] ↔ has (D.put (.int .i64 x) (.lit (.int .i64 1))) (.int .i64 y) = true) ∧ ∀ y ∈ V ++ [x], ∀ z, (D.put (.int .i64 x) (.lit (.int .i64 1))).atKey (.int .i64 y) z = .lit (.int .i64 1) := by
  refine ⟨hD.put _ _, List.nodup_append.2 ⟨hn, by simp, fun a ha b hb => by simp at hb; subst hb; exact fun e => hx (e ▸ ha)⟩, fun y => ?_, fun y hy z => ?_⟩
  · by_cases e : y = x
    · subst e; simp [has_put_same hD (isKeyLit_int y)]
    · rw [has_put_other (by simpa using e)]
      simp [hm y, e]
  · by_cases e : y = x
    · subst e; rw [atKey_put_same hD (isKeyLit_int y)]
    · rw [atKey_put_other (by simpa using e)]
      exact ha y (by simpa [e] using hy) z
end Go.Proofs.YtnmcgmpmcliinaaGreat

namespace Go.Proofs.YtnmcgmpmcliinaaGreat
open Go.RowKit Go.Maps
structure RE (W w : World) (mb wb sb : Nat) : Prop where
  bel : Below W.heap.size W w
  m : CellsAt w mb #[.map (some W.heap.size)] 80
  l : CellsAt w wb #[.func (.func 140) #[] #[.pointer (some ⟨mb, 0, none⟩), .pointer (some ⟨wb, 0, none⟩), .pointer (some ⟨sb, 0, none⟩)]] 203
  nm : mb ≠ W.heap.size
  nw : wb ≠ W.heap.size
theorem RE.grown {W w w' : World} {mb wb sb : Nat} (h : RE W w mb wb sb) (hg : w.grownBy w' (some W.heap.size)) : RE W w' mb wb sb := by
  refine ⟨h.bel.grown hg h.bel.size (fun k hk => by cases hk; exact Nat.le_refl _), ?_, ?_, h.nm, h.nw⟩
  · unfold CellsAt
    rw [hg.block mb h.m.lt (by simp; exact h.nm)]
    exact h.m
  · unfold CellsAt
    rw [hg.block wb h.l.lt (by simp; exact h.nw)]
    exact h.l
theorem RE.drew {W w : World} {mb wb sb : Nat} (h : RE W w mb wb sb) : RE W w.drew mb wb sb := ⟨h.bel.drew, h.m, h.l, h.nm, h.nw⟩
structure Got (n : Nat) (B : Nat → Blk) (l l' : List Int) (V V' : List Int) : Prop where
  there : ∀ x ∈ V', There n B x
  sub : ∀ x ∈ V, x ∈ V'
  all : ∀ x ∈ l', x ≠ 0 → x ∈ V'
  clo : ∀ x ∈ V', x ∈ V ∨ Clo B l x
  shut : ∀ x ∈ V', x ∉ V → ∀ k ∈ (B (x - 1).toNat).kids, k ≠ 0 → k ∈ V'
theorem Got.start {n : Nat} {B : Nat → Blk} (l : List Int) {V : List Int} (h : ∀ x ∈ V, There n B x) : Got n B l [] V V := ⟨h, fun x hx => hx, by simp, fun x hx => .inl hx, fun x hx hn => absurd hx hn⟩
theorem Got.skip {n : Nat} {B : Nat → Blk} {l l' V V' : List Int} (h : Got n B l l' V V') {x : Int} (hx : x = 0 ∨ x ∈ V') : Got n B l (l' ++ [x]) V V' :=
  ⟨h.there, h.sub, fun y hy h0 => by
    rcases List.mem_append.1 hy with hy | hy
    · exact h.all y hy h0
    · simp at hy
      subst hy
      exact hx.resolve_left h0, h.clo, h.shut⟩
theorem Got.next {n : Nat} {B : Nat → Blk} {l l' V V' V'' : List Int} (h : Got n B l l' V V') {x : Int} (hx0 : x ≠ 0) (hxl : x ∈ l) (hxt : There n B x)
    (k : Got n B (B (x - 1).toNat).kids (B (x - 1).toNat).kids (V' ++ [x]) V'') : Got n B l (l' ++ [x]) V V'' := by
  have hxin : x ∈ V'' := k.sub x (by simp)
  refine ⟨k.there, fun y hy => k.sub y (by simp [h.sub y hy]), fun y hy h0 => ?_, fun y hy => ?_, fun y hy hn => ?_⟩
  · rcases List.mem_append.1 hy with hy | hy
    · exact k.sub y (by simp [h.all y hy h0])
    · simp at hy; subst hy; exact hxin
  · rcases k.clo y hy with h1 | h1
    · rcases List.mem_append.1 h1 with h2 | h2
      · exact h.clo y h2
      · simp at h2; subst h2; exact .inr (Clo.root hxl hx0)
    · exact .inr (h1.mono fun r hr h0 => (Clo.root hxl hx0).kid hr h0)
  · intro z hz h0
    by_cases e : y = x
    · subst e; exact k.all z hz h0
    · by_cases e2 : y ∈ V'
      · exact k.sub z (by simp [h.shut y e2 hn z hz h0])
      · exact k.shut y hy (by simp [e, e2]) z hz h0
def Walked (W : World) (mb wb sb n : Nat) (B : Nat → Blk) (l V : List Int) (w' : World) : Prop := ∃ V', RE W w' mb wb sb ∧ Seen w' W.heap.size V' ∧ Got n B l l V V'
set_option maxHeartbeats 4000000 in
set_option maxRecDepth 100000 in
theorem walk_any (W : World) (p : Addr) (a : Option Addr) (n c : Nat) (B : Nat → Blk) (sb mb wb : Nat) (hP : PtrAt W p a n c B) (hs : W.cell? ⟨sb, 0, none⟩ = some (.pointer (some p))) (hsb : sb < W.heap.size) (hR : Right n B) (f : Nat) :
    ∀ (l : List Int) (la : Option Addr) (ln lc : Nat) (V : List Int) (w : World), NumsAt (fun _ => True) .i64 W la ln l → (∀ x ∈ l, x = 0 ∨ (There n B x ∧ (B (x - 1).toNat).level < f)) → (∀ x ∈ V, There n B x) → RE W w mb wb sb → Seen w W.heap.size V → ln < 9223372036854775807 →
    Calls Tryz.prog 140 #[.slice la ln lc, .pointer (some ⟨mb, 0, none⟩), .pointer (some ⟨wb, 0, none⟩), .pointer (some ⟨sb, 0, none⟩)] w fun e w' => e = .returned (.tuple #[]) ∧ Walked W mb wb sb n B l V w' := by
  induction f using Nat.strongRecOn with
  | _ f ih =>
    intro l la ln lc V w hN hl hV hE hS hln
    have hn := hR.small
    replace ih := hid ih
    replace hN := hid hN
    replace hl := hid hl
    replace hV := hid hV
    replace hR := hid hR
    replace hE := hid hE
    replace hS := hid hS
    go_enter Tryz.func140, Tryz.ntmps140
    go_wp2_with fail
    go_loopw [9] (fun v wr => ∃ j : Nat, j ≤ ln ∧ v = .int .i64 j ∧ ∃ Vj, RE W wr mb wb sb ∧ Seen wr W.heap.size Vj ∧ Got n B l (l.take j) V Vj) (fun v _ => ln - (Go.RowKit.intOf v).toNat)
    case atStart => exact ⟨0, Nat.zero_le _, rfl, V, hE.out, hS.out, by simpa using Got.start l hV.out⟩
    case round =>
      clear hE hS
      obtain ⟨j, hjn, rfl, Vj, hE, hS, hG⟩ := hrel
      by_cases hlt : j < ln
      · obtain ⟨kb, ko, rfl, hkb, _, hc⟩ := hN.out.2.2 (by omega)
        have hck : wr.cell? ⟨kb, ko + j, none⟩ = some (.int .i64 (l.getD j 0)) := (hE.bel.cell (p := ⟨kb, ko + j, none⟩) hkb).trans (hc j hlt)
        have hjl : j < l.length := by rw [hN.out.1]; exact hlt
        have hmem : l.getD j 0 ∈ l := hN.out.getD hlt
        have htk := hid (take_snoc hjl)
        have hwf : (Lit.int .i64 (l.getD j 0)).wf = true := hN.out.2.1 _ hmem
        have hkid := hid (hl.out _ hmem)
        have m0 := hE.m.cell 0
        have l0 := hE.l.cell 0
        simp at m0 l0
        replace hmem := hid hmem
        clear hc hjl
        generalize l.getD j 0 = x at *
        by_cases hx0 : x = 0
        · have hx0' : (x == 0) = true := by simp [hx0]
          have hG' : Hid (Got n B l (l.take (j + 1)) V Vj) := hid (by rw [htk.out]; exact hG.skip (.inl hx0))
          replace hE := hid hE
          replace hS := hid hS
          clear hG
          go_wp2_with fail
          go_roundw
          case rel => exact ⟨j + 1, by omega, by go_num, Vj, hE.out, hS.out, hG'.out⟩
          case measure => simp [Go.RowKit.intOf]; omega
        · have hx0' : (x == 0) = false := by simp [hx0]
          obtain ⟨D, hown, hD, hnd, hm, hat⟩ := hS
          obtain ⟨cv, hrun, hcv, hwc⟩ := hown.lookup_int law3 Tryz.underlying80 Tryz.underlying3 (zeroInt _) (keyOf_int_mk Tryz.underlying3 hwf)
          by_cases hin : x ∈ Vj
          · have hc1 : cv = 1 := by
              rw [hat x hin] at hcv
              simpa using hcv.symm
            subst hc1
            have hG' : Hid (Got n B l (l.take (j + 1)) V Vj) := hid (by rw [htk.out]; exact hG.skip (.inr hin))
            have hS : Hid (Seen wr W.heap.size Vj) := hid ⟨D, hown, hD, hnd, hm, hat⟩
            replace hE := hid hE
            clear hG hown hD hnd hm hat hcv hin
            go_wp2_with fail
            go_roundw
            case rel => exact ⟨j + 1, by omega, by go_num, Vj, hE.out, hS.out, hG'.out⟩
            case measure => simp [Go.RowKit.intOf]; omega
          · have hc0 : cv = 0 := by
              have h1 : has D (.int .i64 x) = false := by
                cases h2 : has D (.int .i64 x)
                · rfl
                · exact absurd ((hm x).2 h2) hin
              rw [atKey_of_not_has h1] at hcv
              simpa using hcv.symm
            subst hc0
            have hlen : Vj.length ≤ n := pigeon n Vj hnd (fun y hy => ⟨(hG.there y hy).1, (hG.there y hy).2.1⟩)
            have hput := hid (seen_put hD hnd hin hm hat)
            have hxt := hkid.out.resolve_left hx0
            obtain ⟨i, rfl⟩ : ∃ i : Nat, x = (i : Int) + 1 := ⟨(x - 1).toNat, by have := hxt.1.1; omega⟩
            have ei : ((i : Int) + 1 - 1).toNat = i := by omega
            have hi : i < n := by have := hxt.1.2.1; omega
            replace hE := hid hE
            replace hG := hid hG
            replace hcv := hid hcv
            clear hnd hm hat hD hkid
            go_wp2_with (at_mapUpdate; refine wpList_mapUpdate_own _ rfl _ _ _ 80 rfl 3 3 law3 Tryz.underlying80 _ W.heap.size Vj.length _ rfl hown (by unfold maxLen; omega) _ _ _ rfl rfl (keyOf_int_mk Tryz.underlying3 hwf) _ [] (plainElem_int Tryz.underlying3 (WalkArith.wf_i64 (by omega))) ?_; intro w1 hown1 hgrow1)
            replace hE := hE.out.grown hgrow1
            have hlen1 : (Vj ++ [(i : Int) + 1]).length = Vj.length + 1 := by simp
            have hS1 : Seen w1 W.heap.size (Vj ++ [(i : Int) + 1]) := ⟨_, by rw [hlen1]; exact hown1, hput.out.1, hput.out.2.1, hput.out.2.2.1, hput.out.2.2.2⟩
            clear hown1 hgrow1 hput hown hrun hcv hwc m0 l0 hck hlen1
            obtain ⟨b', off', rfl, hb', hB'⟩ := hP.store (by omega)
            obtain ⟨ka, kn, kc, ba, bn, bc, hbk⟩ := hB' i hi
            have s0 := (hE.bel.cell (p := ⟨sb, 0, none⟩) hsb).trans hs
            have q0 := (hE.bel.cell (p := p) hP.lt).trans hP.cell
            have c2 := (hE.bel.cell (p := ⟨b', off' + i * 4 + 2, none⟩) hb').trans hbk.c2
            have l0 := hE.l.cell 0
            simp at l0
            have hkn : kn < 9223372036854775807 := by
              have h1 := hbk.kids.1
              have h2 := (hR.out.one i hi).few
              omega
            have hkids := hid hbk.kids
            have hlev : Hid (∀ x ∈ (B i).kids, x = 0 ∨ (There n B x ∧ (B (x - 1).toNat).level < (((B i).level.toNat : Nat) : Int))) := hid (fun x hx => by
              rcases (hR.out.one i hi).kids x hx with h | ⟨h1, h2⟩
              · exact .inl h
              · have h3 := (hR.out.one i hi).live hx
                exact .inr ⟨h1, by omega⟩)
            have hless : (B i).level.toNat < f := by
              have h1 := hxt.2
              rw [ei] at h1
              have h2 := (hR.out.one i hi).bounds
              omega
            have hV1 : Hid (∀ x ∈ Vj ++ [(i : Int) + 1], There n B x) := hid (fun x hx => by
              rcases List.mem_append.1 hx with h | h
              · exact hG.out.there x h
              · simp at h; subst h; exact hxt.1)
            have hend : Hid (∀ V'', Got n B (B i).kids (B i).kids (Vj ++ [(i : Int) + 1]) V'' → Got n B l (l.take (j + 1)) V V'') := hid (fun V'' hk => by
              rw [htk.out]
              exact hG.out.next hx0 hmem.out hxt.1 (by rw [ei]; exact hk))
            replace hE := hid hE
            replace hS1 := hid hS1
            replace hP := hid hP
            replace hxt := hid hxt
            clear hbk hB' hb' ei hG
            go_upto_region 5 with fail
            go_region_with (first
              | (go_at_call 121; refine (at_ptr p b' off' n c i _ hn ?_ hi).mono ?_; exact q0; rintro e w' ⟨rfl, rfl⟩)
              | (go_at_call 140; refine (ih.out (B i).level.toNat hless (B i).kids ka kn kc (Vj ++ [(i : Int) + 1]) _ hkids.out hlev.out hV1.out ?_ ?_ hkn).mono ?_; exact hE.out.drew; exact hS1.out.out rfl; rintro e w' ⟨rfl, V'', hE2, hS2, hG2⟩; replace hE2 := hid hE2; replace hS2 := hid hS2; replace hG2 := hid hG2))
            all_goals (clear s0 q0 c2 l0; go_wp2_with fail; go_roundw)
            all_goals first
              | exact ⟨j + 1, by omega, by go_num, V'', hE2.out, hS2.out, hend.out V'' hG2.out⟩
              | (simp [Go.RowKit.intOf]; omega)
      · obtain rfl : j = ln := by omega
        have hG' : Hid (Got n B l l V Vj) := hid (by rw [List.take_of_length_le (by rw [hN.out.1]; exact Nat.le_refl _)] at hG; exact hG)
        replace hE := hid hE
        replace hS := hid hS
        clear hG
        go_wp2_with fail
        go_end0
        exact ⟨rfl, Vj, hE.out, hS.out, hG'.out⟩
end Go.Proofs.YtnmcgmpmcliinaaGreat

namespace Go.Proofs.YtnmcgmpmcliinaaGreat
open Go.RowKit Go.Maps Go.Sort Go.Shelf
def Tryz.keysA_ren : Go.Shelf.Ren := ⟨fun | 7 => 142 | 10 => 159 | n => n, fun | 23 => 80 | 26 => 3 | 3 => 3 | 28 => 206 | 0 => 0 | 27 => 205 | 33 => 116 | 4 => 4 | n => n, fun | n => n⟩
theorem Tryz.keysA : Go.Proofs.SlLaysZI.n7 Tryz.prog Tryz.keysA_ren := {
  mixed := by kernel_rfl
  f7 := ⟨Tryz.f142.name, by decide, Tryz.func142.trans (congrArg some (by kernel_rfl))⟩
  f10 := ⟨Tryz.f159.name, by decide, Tryz.func159.trans (congrArg some (by kernel_rfl))⟩
  t0 := Tryz.underlying0
  a0 := Tryz.isAgg0
  z0 := Tryz.sizeOf0
  v0 := Tryz.zeroValue0
  t4 := Tryz.underlying4
  a4 := Tryz.isAgg4
  z4 := Tryz.sizeOf4
  v4 := Tryz.zeroValue4
  t23 := Tryz.underlying80
  a23 := Tryz.isAgg80
  z23 := Tryz.sizeOf80
  v23 := Tryz.zeroValue80
  t26 := Tryz.underlying3
  a26 := Tryz.isAgg3
  z26 := Tryz.sizeOf3
  v26 := Tryz.zeroValue3
  t27 := Tryz.underlying205
  a27 := Tryz.isAgg205
  z27 := Tryz.sizeOf205
  v27 := Tryz.zeroValue205
  t28 := Tryz.underlying206
  a28 := Tryz.isAgg206
  z28 := Tryz.sizeOf206
  v28 := Tryz.zeroValue206
  t33 := Tryz.underlying116
  a33 := Tryz.isAgg116
  z33 := Tryz.sizeOf116
  v33 := Tryz.zeroValue116 }
def Tryz.sortedA_ren : Go.Shelf.Ren := ⟨fun | 6 => 141 | 8 => 157 | 9 => 158 | 11 => 170 | 13 => 172 | 12 => 171 | 23 => 186 | 24 => 187 | 14 => 177 | 15 => 178 | 16 => 179 | 17 => 180 | 18 => 181 | 19 => 182 | 20 => 183 | 21 => 184 | 22 => 185 | 25 => 194 | 26 => 195 | 27 => 196 | 28 => 197 | 29 => 198 | 30 => 199 | 31 => 202 | n => n, fun | 26 => 3 | 28 => 206 | 24 => 77 | 0 => 0 | 3 => 3 | 37 => 199 | 48 => 244 | 50 => 246 | 4 => 4 | 40 => 237 | 39 => 236 | 45 => 120 | 5 => 5 | 9 => 9 | 51 => 249 | 55 => 253 | 57 => 256 | 58 => 257 | 33 => 116 | n => n, fun | n => n⟩
theorem Tryz.sortedA : Go.Proofs.SlLaysZI.n6 Tryz.prog Tryz.sortedA_ren := {
  mixed := by kernel_rfl
  f6 := ⟨Tryz.f141.name, by decide, Tryz.func141.trans (congrArg some (by kernel_rfl))⟩
  f8 := ⟨Tryz.f157.name, by decide, Tryz.func157.trans (congrArg some (by kernel_rfl))⟩
  f11 := ⟨Tryz.f170.name, by decide, Tryz.func170.trans (congrArg some (by kernel_rfl))⟩
  t0 := Tryz.underlying0
  a0 := Tryz.isAgg0
  z0 := Tryz.sizeOf0
  v0 := Tryz.zeroValue0
  t24 := Tryz.underlying77
  a24 := Tryz.isAgg77
  z24 := Tryz.sizeOf77
  v24 := Tryz.zeroValue77
  t26 := Tryz.underlying3
  a26 := Tryz.isAgg3
  z26 := Tryz.sizeOf3
  v26 := Tryz.zeroValue3
  t28 := Tryz.underlying206
  a28 := Tryz.isAgg206
  z28 := Tryz.sizeOf206
  v28 := Tryz.zeroValue206
  i26 := by kernel_rfl }
def Tryz.sortA_ren : Go.Shelf.Ren := ⟨fun | 5 => 158 | 8 => 172 | 7 => 171 | 19 => 186 | 20 => 187 | 10 => 177 | 11 => 178 | 12 => 179 | 13 => 180 | 14 => 181 | 15 => 182 | 16 => 183 | 17 => 184 | 18 => 185 | 30 => 194 | 31 => 195 | 32 => 196 | 33 => 197 | 34 => 198 | 35 => 199 | 40 => 202 | n => n, fun | 23 => 77 | 25 => 3 | 3 => 3 | 32 => 199 | 22 => 77 | 0 => 0 | 44 => 244 | 46 => 246 | 4 => 4 | 36 => 237 | 35 => 236 | 41 => 120 | 5 => 5 | 9 => 9 | 53 => 249 | 57 => 253 | 63 => 256 | 64 => 257 | n => n, fun | n => n⟩
theorem Tryz.sortA : Go.Proofs.SlLaysM.n5 Tryz.prog Tryz.sortA_ren := {
  mixed := by kernel_rfl
  f5 := ⟨Tryz.f158.name, by decide, Tryz.func158.trans (congrArg some (by kernel_rfl))⟩
  f7 := ⟨Tryz.f171.name, by decide, Tryz.func171.trans (congrArg some (by kernel_rfl))⟩
  f8 := Tryz.func172.trans (congrArg some (by kernel_rfl))
  f10 := ⟨Tryz.f177.name, by decide, Tryz.func177.trans (congrArg some (by kernel_rfl))⟩
  f11 := ⟨Tryz.f178.name, by decide, Tryz.func178.trans (congrArg some (by kernel_rfl))⟩
  f12 := ⟨Tryz.f179.name, by decide, Tryz.func179.trans (congrArg some (by kernel_rfl))⟩
  f13 := ⟨Tryz.f180.name, by decide, Tryz.func180.trans (congrArg some (by kernel_rfl))⟩
  f14 := ⟨Tryz.f181.name, by decide, Tryz.func181.trans (congrArg some (by kernel_rfl))⟩
  f15 := ⟨Tryz.f182.name, by decide, Tryz.func182.trans (congrArg some (by kernel_rfl))⟩
  f16 := ⟨Tryz.f183.name, by decide, Tryz.func183.trans (congrArg some (by kernel_rfl))⟩
  f17 := ⟨Tryz.f184.name, by decide, Tryz.func184.trans (congrArg some (by kernel_rfl))⟩
  f18 := ⟨Tryz.f185.name, by decide, Tryz.func185.trans (congrArg some (by kernel_rfl))⟩
  f19 := Tryz.func186.trans (congrArg some (by kernel_rfl))
  f20 := Tryz.func187.trans (congrArg some (by kernel_rfl))
  f30 := ⟨Tryz.f194.name, by decide, Tryz.func194.trans (congrArg some (by kernel_rfl))⟩
  f31 := Tryz.func195.trans (congrArg some (by kernel_rfl))
  f32 := Tryz.func196.trans (congrArg some (by kernel_rfl))
  f33 := ⟨Tryz.f197.name, by decide, Tryz.func197.trans (congrArg some (by kernel_rfl))⟩
  f34 := ⟨Tryz.f198.name, by decide, Tryz.func198.trans (congrArg some (by kernel_rfl))⟩
  f35 := ⟨Tryz.f199.name, by decide, Tryz.func199.trans (congrArg some (by kernel_rfl))⟩
  f40 := ⟨Tryz.f202.name, by decide, Tryz.func202.trans (congrArg some (by kernel_rfl))⟩
  t0 := Tryz.underlying0
  a0 := Tryz.isAgg0
  z0 := Tryz.sizeOf0
  v0 := Tryz.zeroValue0
  t3 := Tryz.underlying3
  a3 := Tryz.isAgg3
  z3 := Tryz.sizeOf3
  v3 := Tryz.zeroValue3
  t4 := Tryz.underlying4
  a4 := Tryz.isAgg4
  z4 := Tryz.sizeOf4
  v4 := Tryz.zeroValue4
  t5 := Tryz.underlying5
  a5 := Tryz.isAgg5
  z5 := Tryz.sizeOf5
  v5 := Tryz.zeroValue5
  t9 := Tryz.underlying9
  a9 := Tryz.isAgg9
  z9 := Tryz.sizeOf9
  v9 := Tryz.zeroValue9
  t22 := Tryz.underlying77
  a22 := Tryz.isAgg77
  z22 := Tryz.sizeOf77
  v22 := Tryz.zeroValue77
  t23 := Tryz.underlying77
  a23 := Tryz.isAgg77
  z23 := Tryz.sizeOf77
  v23 := Tryz.zeroValue77
  t25 := Tryz.underlying3
  a25 := Tryz.isAgg3
  z25 := Tryz.sizeOf3
  v25 := Tryz.zeroValue3
  t32 := Tryz.underlying199
  a32 := Tryz.isAgg199
  z32 := Tryz.sizeOf199
  v32 := Tryz.zeroValue199
  t35 := Tryz.underlying236
  a35 := Tryz.isAgg236
  z35 := Tryz.sizeOf236
  v35 := Tryz.zeroValue236
  t36 := Tryz.underlying237
  a36 := Tryz.isAgg237
  z36 := Tryz.sizeOf237
  v36 := Tryz.zeroValue237
  t41 := Tryz.underlying120
  a41 := Tryz.isAgg120
  z41 := Tryz.sizeOf120
  v41 := Tryz.zeroValue120
  t44 := Tryz.underlying244
  a44 := Tryz.isAgg244
  z44 := Tryz.sizeOf244
  v44 := Tryz.zeroValue244
  t46 := Tryz.underlying246
  a46 := Tryz.isAgg246
  z46 := Tryz.sizeOf246
  v46 := Tryz.zeroValue246
  t53 := Tryz.underlying249
  a53 := Tryz.isAgg249
  z53 := Tryz.sizeOf249
  v53 := Tryz.zeroValue249
  t57 := Tryz.underlying253
  a57 := Tryz.isAgg253
  z57 := Tryz.sizeOf253
  v57 := Tryz.zeroValue253
  t63 := Tryz.underlying256
  a63 := Tryz.isAgg256
  z63 := Tryz.sizeOf256
  v63 := Tryz.zeroValue256
  t64 := Tryz.underlying257
  a64 := Tryz.isAgg257
  z64 := Tryz.sizeOf257
  v64 := Tryz.zeroValue257 }
theorem sortsA (m : Nat) : AnyZI.SortsIn Tryz.prog Tryz.sortedA_ren Fence.wide m :=
  ⟨fun blk off cap ss W hH hblk hsz => callsIn_wide.2 (AnyM.slices_Sort_int Tryz.sortA blk off cap ss W hH hblk hsz),
   fun p cap W => callsIn_wide.2 (AnyM.slices_Sort_int_none Tryz.sortA p cap W)⟩
theorem keys_any (mb : Option Nat) (W : World) : Calls Tryz.prog 142 #[.map mb] W fun e w' => e = .returned (.func (.func 159) #[] #[.pointer (some ⟨W.heap.size, 0, none⟩)]) ∧ w' = W.alloc (.cells #[.map mb] 80) :=
  (callsIn_wide (n := 5)).1 (AnyZI.keys_in Tryz.keysA Fence.wide 5 trivial rfl mb W)
set_option maxHeartbeats 1000000 in
theorem sortedKeys_any {H : Type} (b nn : Nat) (D0 : DataW H) (R : Value → Option (DataW H × List MemPlace)) (w : World) (hown : w.ownsMap Tryz.prog 3 R b nn D0) (hmax : Maps.size D0 ≤ maxLen) (hbytes : Maps.size D0 * 8 ≤ 140737488355328) :
    Calls Tryz.prog 141 #[.func (.func 159) #[] #[.pointer (some ⟨w.heap.size, 0, none⟩)]] (w.alloc (.cells #[.map (some b)] 80)) fun e w' => ∃ (v : Value) (ss : List Int), e = .returned v ∧ ss.Perm (intKeys D0) ∧
      w'.ownsRow (w.heap.size + 1) 3 1 v ss.length ((ss.mergeSort (fun x y => decide (x ≤ y))).map encZ) ∧ (v = .slice none 0 0 ↔ ss = []) ∧ Below (w.heap.size + 1) (w.alloc (.cells #[.map (some b)] 80)) w' := by
  refine (callsIn_wide (n := 5)).1 ?_
  have hbl := hown.lt
  have hseq : SeqGives Fence.wide 2 Tryz.prog 159 #[.pointer (some ⟨w.heap.size, 0, none⟩)] encZ (fun ss => ss.Perm (intKeys D0)) (Maps.size D0) (w.alloc (.cells #[.map (some b)] 80)) :=
    AnyZI.keys_gives (ρ := Tryz.keysA_ren) { Tryz.keysA with } Fence.wide _ trivial rfl (by omega) w.heap.size b nn D0 _ (by simp) (by simp) (by
      obtain ⟨es, clock, hb, Ft, hs, hD⟩ := hown
      exact ⟨es, clock, (Below.heap_alloc _ _ b hbl).trans hb, Ft, hs, hD⟩)
  have cS := AnyZI.sorted_in Tryz.sortedA Fence.wide 5 trivial trivial trivial trivial rfl (by omega) (sortsA _) (enters_of Tryz.func158 (by kernel_rfl) rfl) 159 #[.pointer (some ⟨w.heap.size, 0, none⟩)] trivial (enters_of Tryz.func159 (by kernel_rfl) rfl) _ _ hmax hbytes _ hseq
  change CallsIn _ _ Tryz.prog 141 _ _ _ at cS
  refine cS.mono ?_
  rintro e w' ⟨v, ss, rfl, h1, h2, h3, h4⟩
  rw [World.size_alloc] at h2 h4
  exact ⟨v, ss, rfl, h1, h2, h3, h4⟩
end Go.Proofs.YtnmcgmpmcliinaaGreat

namespace Go.Proofs.YtnmcgmpmcliinaaGreat
open Go.RowKit Go.Maps
def Rising (L : List Int) : Prop := L.Pairwise (fun x y => x < y)
theorem sorted_of (V : List Int) (hn : V.Nodup) : Rising (V.mergeSort leI) ∧ ∀ x, x ∈ V.mergeSort leI ↔ x ∈ V := by
  have tr : ∀ a b c : Int, leI a b = true → leI b c = true → leI a c = true := fun a b c h1 h2 => by simp only [leI, decide_eq_true_eq] at *; exact Int.le_trans h1 h2
  have to : ∀ a b : Int, (leI a b || leI b a) = true := fun a b => by simp only [leI, Bool.or_eq_true, decide_eq_true_eq]; exact Int.le_total a b
  have h1 := List.pairwise_mergeSort tr to V
  have h2 : (V.mergeSort leI).Nodup := (List.mergeSort_perm V leI).nodup_iff.2 hn
  refine ⟨?_, fun x => (List.mergeSort_perm V leI).mem_iff⟩
  unfold Rising
  have h3 := List.Pairwise.and h1 h2
  refine h3.imp ?_
  intro a b h
  have ha := h.1
  simp only [leI, decide_eq_true_eq] at ha
  have := h.2
  omega
def ListAt (base : Nat) (w : World) (v : Value) (L : List Int) : Prop := w.ownsRow base 3 1 v L.length (L.map (Value.int .i64)) ∧ ∀ x ∈ L, (Lit.int .i64 x).wf = true
def Reachable (n : Nat) (B : Nat → Blk) (l : List Int) : Prop := Right n B ∧ RootsOk n B l
def RetR (base : Nat) (e : Ending) (w : World) (n : Nat) (B : Nat → Blk) (l : List Int) : Prop :=
  (∃ e', e = .returned (.tuple #[.slice none 0 0, .int .i64 e']) ∧ e' ≠ 0 ∧ ¬ Reachable n B l) ∨
  (Reachable n B l ∧ ∃ v L, e = .returned (.tuple #[v, .int .i64 0]) ∧ ListAt base w v L ∧ Rising L ∧ ∀ x, x ∈ L ↔ Clo B l x)
theorem size_of_perm {D : DataW Unit} {V : List Int} (hD : IsMap D) (h : V.Perm (intKeys D)) : Maps.size D = V.length := by
  obtain ⟨es, rfl⟩ := hD
  rw [h.length_eq]
  simp [intKeys, Maps.size]
theorem seen_new (w : World) : Seen (w.alloc (.map #[] 0)) w.heap.size [] :=
  ⟨.map [], World.ownsMap_made _ _ _ _, ⟨[], rfl⟩, List.nodup_nil, fun x => by simp [has], fun x hx => by simp at hx⟩
set_option maxHeartbeats 4000000 in
set_option maxRecDepth 100000 in
theorem reach_any (p : Addr) (a : Option Addr) (n c : Nat) (B : Nat → Blk) (la : Option Addr) (ln lc : Nat) (l : List Int) (w : World) (h : PtrAt w p a n c B) (hl : NumsAt (fun _ => True) .i64 w la ln l) (hln : ln < 9223372036854775807) :
    Calls Tryz.prog 102 #[.pointer (some p), .slice la ln lc] w fun e w' => RetR w.heap.size e w' n B l ∧ Below w.heap.size w w' := by
  have hmm := @run_makeMap Tryz.prog
  have hmf : ∀ (fn : Fn) (first cap : Array Value) (w : World), (Instr.makeFunc fn first cap).run Tryz.prog w = .ok (.func fn first cap) w := fun _ _ _ _ => rfl
  have b0 := below_alloc w (.cells #[.pointer (some p)] 70)
  have k0 : CellsAt _ w.heap.size #[.pointer (some p)] 70 := cellsAt_alloc w _ _
  replace h := h.below b0
  replace hl := hl.below b0
  go_enter Tryz.func102, Tryz.ntmps102
  go_wp2_with fail
  generalize w.alloc (.cells #[.pointer (some p)] 70) = w0 at *
  refine (check_any p a n c B w0 h).mono ?_
  rintro e w1 ⟨⟨e', rfl, he⟩, b1⟩
  replace h := h.below b1
  replace hl := hl.below b1
  replace k0 := k0.below b1
  replace b1 := Below.tr b0 b1
  have s0 := k0.cell 0
  simp at s0
  replace he := hid he
  clear b0
  by_cases h0 : e' = 0
  · have h0' : (e' == 0) = true := by simp [h0]
    have hR := he.out.1 h0
    have hn := hR.small
    have q0 := h.cell
    replace hR := hid hR
    replace hl := hid hl
    replace h := hid h
    replace k0 := hid k0
    go_wp2_with fail
    go_loopw [18] (fun v wr => ∃ j : Nat, j ≤ ln ∧ v = .int .i64 j ∧ (∀ r ∈ l.take j, r = 0 ∨ There n B r) ∧ wr = w1) (fun v _ => ln - (Go.RowKit.intOf v).toNat)
    case atStart => exact ⟨0, Nat.zero_le _, rfl, by simp, rfl⟩
    case round =>
      obtain ⟨j, hjn, rfl, hok, rfl⟩ := hrel
      by_cases hlt : j < ln
      · obtain ⟨kb, ko, rfl, hkb, _, hc⟩ := hl.out.2.2 (by omega)
        have hck := hc j hlt
        have hjl : j < l.length := by rw [hl.out.1]; exact hlt
        have hmem : Hid (l.getD j 0 ∈ l) := hid (hl.out.getD hlt)
        have hstep : Hid ((l.getD j 0 = 0 ∨ There n B (l.getD j 0)) → ∀ r ∈ l.take (j + 1), r = 0 ∨ There n B r) := hid (fun hx r hr => by
          rw [take_snoc hjl] at hr
          rcases List.mem_append.1 hr with hr | hr
          · exact hok r hr
          · simp only [List.mem_singleton] at hr
            rw [hr]; exact hx)
        clear hc hjl hok
        generalize l.getD j 0 = x at *
        by_cases hx0 : x = 0
        · have hx0' : (x == 0) = true := by simp [hx0]
          go_wp2_with fail
          go_roundw
          case rel => exact ⟨j + 1, by omega, by go_num, hstep.out (.inl hx0), trivial⟩
          case measure => simp [Go.RowKit.intOf]; omega
        · have hx0' : (x == 0) = false := by simp [hx0]
          go_wp2_with fail
          refine (there_any p a n c B x _ hn q0 h.out.store).mono ?_
          rintro e w2 ⟨⟨t, rfl, ht⟩, rfl⟩
          replace ht := hid ht
          cases t
          · go_wp2_with fail
            go_ret2
            exact ⟨.inl ⟨5, rfl, by omega, fun f => by
              rcases f.2 x hmem.out with h1 | h1
              · exact hx0 h1
              · simpa using ht.out.2 h1⟩, b1⟩
          · go_wp2_with fail
            go_roundw
            case rel => exact ⟨j + 1, by omega, by go_num, hstep.out (.inr (by simpa using ht.out)), trivial⟩
            case measure => simp [Go.RowKit.intOf]; omega
      · obtain rfl : j = ln := by omega
        have hok' : Hid (RootsOk n B l) := hid (by
          intro r hr
          rw [← List.take_of_length_le (l := l) (i := j) (by rw [hl.out.1]; exact Nat.le_refl _)] at hr
          exact hok r hr)
        clear hok
        go_wp2_with fail
        have bM := below_alloc wr (.map #[] 0)
        have bA := (bM.alloc (by simp) (.cells #[.map (some wr.heap.size)] 80)).alloc (by simp; omega) (.cells #[.func (.func 140) #[] #[.pointer (some ⟨wr.heap.size + 1, 0, none⟩), .pointer (some ⟨wr.heap.size + 1 + 1, 0, none⟩), .pointer (some ⟨w.heap.size, 0, none⟩)]] 203)
        have kM : CellsAt _ (wr.heap.size + 1) #[.map (some wr.heap.size)] 80 := (cellsAt_alloc2 wr (.map #[] 0) _ _).below (below_alloc _ (.cells #[.func (.func 140) #[] #[.pointer (some ⟨wr.heap.size + 1, 0, none⟩), .pointer (some ⟨wr.heap.size + 1 + 1, 0, none⟩), .pointer (some ⟨w.heap.size, 0, none⟩)]] 203))
        have kL := cellsAt_alloc3 wr (.map #[] 0) (.cells #[.map (some wr.heap.size)] 80) #[.func (.func 140) #[] #[.pointer (some ⟨wr.heap.size + 1, 0, none⟩), .pointer (some ⟨wr.heap.size + 1 + 1, 0, none⟩), .pointer (some ⟨w.heap.size, 0, none⟩)]] 203
        have hSe := (seen_new wr).out (w' := ((wr.alloc (.map #[] 0)).alloc (.cells #[.map (some wr.heap.size)] 80)).alloc (.cells #[.func (.func 140) #[] #[.pointer (some ⟨wr.heap.size + 1, 0, none⟩), .pointer (some ⟨wr.heap.size + 1 + 1, 0, none⟩), .pointer (some ⟨w.heap.size, 0, none⟩)]] 203)) (by rw [Below.heap_alloc _ _ _ (by simp; omega), Below.heap_alloc _ _ _ (by simp)])
        have hRE : RE wr (((wr.alloc (.map #[] 0)).alloc (.cells #[.map (some wr.heap.size)] 80)).alloc (.cells #[.func (.func 140) #[] #[.pointer (some ⟨wr.heap.size + 1, 0, none⟩), .pointer (some ⟨wr.heap.size + 1 + 1, 0, none⟩), .pointer (some ⟨w.heap.size, 0, none⟩)]] 203)) (wr.heap.size + 1) (wr.heap.size + 1 + 1) w.heap.size := ⟨bA, kM, kL, by omega, by omega⟩
        generalize ((wr.alloc (.map #[] 0)).alloc (.cells #[.map (some wr.heap.size)] 80)).alloc (.cells #[.func (.func 140) #[] #[.pointer (some ⟨wr.heap.size + 1, 0, none⟩), .pointer (some ⟨wr.heap.size + 1 + 1, 0, none⟩), .pointer (some ⟨w.heap.size, 0, none⟩)]] 203) = w2 at *
        refine (walk_any wr p a n c B w.heap.size (wr.heap.size + 1) (wr.heap.size + 1 + 1) h.out s0 k0.out.lt hR.out 4 l la j lc [] w2 hl.out (fun x hx => by
          rcases hok'.out x hx with h1 | h1
          · exact .inl h1
          · have := (hR.out.one _ (ix h1.1 h1.2.1).1).bounds
            exact .inr ⟨h1, by omega⟩) (by simp) hRE hSe hln).mono ?_
        rintro e w3 ⟨rfl, V, hE, hS, hG⟩
        have m0 := hE.m.cell 0
        simp at m0
        have hb3 := hE.bel
        obtain ⟨D, hown, hD, hnd, hm, hat⟩ := hS
        have hperm : V.Perm (intKeys D) := CollectedI.perm (left := fun _ => false) ⟨hnd, fun x => by simp [hm x]⟩ hown law3 Tryz.underlying3 (fun _ => rfl)
        have hlen : V.length ≤ n := pigeon n V hnd (fun y hy => ⟨(hG.there y hy).1, (hG.there y hy).2.1⟩)
        have hsize := size_of_perm hD hperm
        have hmemL : Hid (∀ x, x ∈ V ↔ Clo B l x) := hid (fun x => ⟨fun hx => (hG.clo x hx).resolve_left (by simp), fun hx => hx (fun y => y ∈ V) hG.all (fun y hy k hk h0 => hG.shut y hy (by simp) k hk h0)⟩)
        have hthere := hid hG.there
        replace hperm := hid hperm
        replace hnd := hid hnd
        replace hb3 := hid hb3
        replace hown := hid hown
        clear hE hG hm hat hSe hRE bA bM kM kL hD
        go_wp2_with fail
        refine (keys_any (some wr.heap.size) w3).mono ?_
        rintro e w4 ⟨rfl, rfl⟩
        go_wp2_with fail
        refine (sortedKeys_any wr.heap.size V.length D _ w3 hown.out (by rw [hsize]; unfold maxLen; omega) (by rw [hsize]; omega)).mono ?_
        rintro e w5 ⟨v, ss, rfl, hss, hrow, hnil, b5⟩
        have hsort : ss.mergeSort (fun x y => decide (x ≤ y)) = V.mergeSort leI := mergeSort_of_perm_i (hss.trans hperm.out.symm)
        have hslen : ss.length = (V.mergeSort leI).length := by rw [← hsort]; simp
        rw [hsort, hslen] at hrow
        have bT : Below w.heap.size w w5 := (Below.tr b1 hb3.out).trans ((below_alloc w3 (.cells #[.map (some wr.heap.size)] 80)).trans (b5.mono (by omega)) |>.mono (by have := (Below.tr b1 hb3.out).size; omega))
        have hsz : w.heap.size ≤ w3.heap.size := (Below.tr b1 hb3.out).size
        replace hrow := hid hrow
        clear hss hsort hslen hnil b5
        go_wp2_with fail
        go_ret2
        refine ⟨.inr ⟨⟨hR.out, hok'.out⟩, v, V.mergeSort leI, rfl, ⟨ownsRow_base (by omega) hrow.out, fun x hx => ?_⟩, (sorted_of V hnd.out).1, fun x => ((sorted_of V hnd.out).2 x).trans (hmemL.out x)⟩, bT⟩
        have h1 := hthere.out x (((sorted_of V hnd.out).2 x).1 hx)
        exact WalkArith.wf_i64 (by have := h1.1; have := h1.2.1; omega)
  · have h0' : (e' == 0) = false := by simp [h0]
    go_wp2_with fail
    go_ret2
    exact ⟨.inl ⟨e', rfl, h0, fun f => h0 (he.out.2 f.1)⟩, b1⟩
set_option maxHeartbeats 1000000 in
theorem storeReach_any (a : Option Addr) (n c : Nat) (B : Nat → Blk) (la : Option Addr) (ln lc : Nat) (l : List Int) (w : World) (h : StoreAt w a n B) (hl : NumsAt (fun _ => True) .i64 w la ln l) (hln : ln < 9223372036854775807) :
    Calls Tryz.prog 65 #[.agg #[.slice a n c], .slice la ln lc] w fun e w' => RetR w.heap.size e w' n B l ∧ Below w.heap.size w w' := by
  go_enter Tryz.func65, Tryz.ntmps65
  go_wp2_with fail
  refine (reach_any _ a n c B la ln lc l _ (ptr_boxed a n c B w _ h) (hl.below (below_alloc _ _)) hln).mono ?_
  rintro e w1 ⟨⟨e', rfl, he, hR⟩ | ⟨hR, v, L, rfl, hL, hr, hm⟩, b1⟩
  · replace hR := hid hR
    go_wp2_with fail
    go_ret2
    exact ⟨.inl ⟨e', rfl, he, hR.out⟩, Below.tr (below_alloc _ _) b1⟩
  · replace hR := hid hR
    replace hL := hid hL
    replace hr := hid hr
    replace hm := hid hm
    go_wp2_with fail
    go_ret2
    exact ⟨.inr ⟨hR.out, v, L, rfl, ⟨ownsRow_base (by simp) hL.out.1, hL.out.2⟩, hr.out, hm.out⟩, Below.tr (below_alloc _ _) b1⟩
end Go.Proofs.YtnmcgmpmcliinaaGreat

namespace Go.Proofs.YtnmcgmpmcliinaaGreat
open Go.RowKit
def heldL (p : Nat → Bool) : Nat → List Int
  | 0 => []
  | i + 1 => heldL p i ++ (if p i then [(i : Int) + 1] else [])
theorem mem_heldL (p : Nat → Bool) (x : Int) : ∀ i, x ∈ heldL p i ↔ ∃ k, k < i ∧ p k = true ∧ x = (k : Int) + 1
  | 0 => by simp [heldL]
  | i + 1 => by
    unfold heldL
    rw [List.mem_append, mem_heldL p x i]
    constructor
    · rintro (⟨k, hk, h⟩ | h)
      · exact ⟨k, by omega, h⟩
      · by_cases hp : p i = true
        · rw [if_pos hp] at h
          exact ⟨i, by omega, hp, by simpa using h⟩
        · rw [if_neg hp] at h
          cases h
    · rintro ⟨k, hk, hp, h⟩
      by_cases e : k = i
      · subst e
        right
        rw [if_pos hp]
        simpa using h
      · exact .inl ⟨k, by omega, hp, h⟩
end Go.Proofs.YtnmcgmpmcliinaaGreat
