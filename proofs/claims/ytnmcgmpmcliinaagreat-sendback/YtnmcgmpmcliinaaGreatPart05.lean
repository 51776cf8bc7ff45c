/-
  Sto2, Stored, Back1, Clo, Reach1 in one text. Nothing here is trusted.
-/
import Derived.Test.YtnmcgmpmcliinaaGreatPart04
import Derived.Laws.BytesArg
import Derived.Maps.Own
import Derived.Maps.OwnOps
import Derived.Lib.SlKeysI
set_option linter.unusedVariables false
namespace Go.Proofs.YtnmcgmpmcliinaaGreat

theorem kid_free {n : Nat} {B : Nat → Blk} {K : Blk} {i : Nat} (hF : Form n B { K with refs := 1 }) (h0 : (B i).refs = 0) : K.kids.count ((i : Int) + 1) = 0 := by
  apply List.count_eq_zero.2
  intro hm
  rcases hF.kids _ hm with h | ⟨⟨_, _, h⟩, _⟩
  · omega
  · rw [show ((i : Int) + 1 - 1).toNat = i by omega] at h; exact h h0

theorem made_same (B : Nat → Blk) (K : Blk) (i : Nat) : made B K i i = { K with refs := 1 } := by simp [made]
theorem made_other (B : Nat → Blk) (K : Blk) {i k : Nat} (h : k ≠ i) : made B K i k = { B k with refs := (B k).refs + (K.kids.count ((k : Int) + 1) : Int) } := by simp [made, h]

theorem among_made {n : Nat} {B : Nat → Blk} {K : Blk} {i : Nat} (hi : i < n) (hz : Form n B (B i)) (h0 : (B i).refs = 0) (x : Int) : among n (made B K i) x = among n B x + K.kids.count x := by
  have h1 : among n (made B K i) x = among n (upd B i { K with refs := 1 }) x := among_congr x fun k hk => by
    by_cases e : k = i
    · subst e; rw [made_same, upd_same]
    · rw [made_other _ _ e, upd_other _ _ _ _ e]
  have h2 := among_upd (n := n) (B := B) (i := i) { K with refs := 1 } x hi
  rw [hz.zero h0] at h2
  have h3 : Blk.zero.kids.count x = 0 := by simp [Blk.zero]
  rw [h3] at h2
  rw [h1]
  simpa using h2

theorem outs_made {n : Nat} {B : Nat → Blk} {K : Blk} {i : Nat} (hR : Right n B) (hF : Form n B { K with refs := 1 }) (hi : i < n) (h0 : (B i).refs = 0) (k : Nat) (hk : k < n) : outs n (made B K i) k = if k = i then 1 else outs n B k := by
  have hm := among_made (K := K) hi (hR.one i hi) h0 ((k : Int) + 1)
  unfold outs
  by_cases e : k = i
  · subst e
    have h1 := hR.held k hk
    have h2 := kid_free hF h0
    simp at h1
    rw [made_same, if_pos rfl, hm, h2]
    show (1 : Int) - _ = 1
    omega
  · rw [made_other _ _ e, if_neg e, hm]
    show (B k).refs + _ - _ = _
    omega

theorem right_made {n : Nat} {B : Nat → Blk} {K : Blk} {i : Nat} (hR : Right n B) (hF : Form n B { K with refs := 1 }) (hi : i < n) (h0 : (B i).refs = 0) (hm : ∀ k, k < n → (made B K i k).refs ≤ 1000000) : Right n (made B K i) := by
  have hth : ∀ x, There n B x → There n (made B K i) x ∧ (made B K i (x - 1).toNat).level = (B (x - 1).toNat).level := by
    intro x ⟨x1, x2, x3⟩
    have hne : (x - 1).toNat ≠ i := fun e => x3 (by rw [e]; exact h0)
    have hb := (hR.one _ (ix x1 x2).1).bounds
    refine ⟨⟨x1, x2, ?_⟩, by rw [made_other _ _ hne]⟩
    rw [made_other _ _ hne]
    show (B (x - 1).toNat).refs + _ ≠ 0
    omega
  refine ⟨hR.small, fun k hk => ?_, fun k hk => ?_, by simp⟩
  · by_cases e : k = i
    · subst e
      rw [made_same]
      exact hF.turn rfl rfl rfl (.inl rfl) fun x _ => hth x
    · have hb := (hR.one k hk).bounds
      have hmk := hm k hk
      refine (hR.one k hk).turn (by rw [made_other _ _ e]) (by rw [made_other _ _ e]) (by rw [made_other _ _ e]) ?_ fun x _ => hth x
      rw [made_other _ _ e] at hmk ⊢
      by_cases e0 : (B k).refs = 0
      · have := kid_free hF e0
        left
        show (B k).refs + _ = _
        omega
      · right
        refine ⟨e0, ?_, hmk⟩
        show 1 ≤ (B k).refs + _
        omega
  · have h1 := outs_made hR hF hi h0 k hk
    have h2 := hR.held k hk
    simp at h2 ⊢
    unfold outs at h1
    split at h1 <;> omega

theorem right_zero (n : Nat) (hn : n ≤ 400) : Right n (fun _ => Blk.zero) := by
  refine ⟨hn, fun i _ => form_zero _ _, fun i hi => ?_, by simp⟩
  have : among n (fun _ => Blk.zero) ((i : Int) + 1) = 0 := by
    have := among_le (n := n) (B := fun _ => Blk.zero) ((i : Int) + 1)
    unfold among
    rw [sumTo_congr (g := fun _ => 0) (fun k _ => by simp [Blk.zero])]
    clear this hi hn
    induction n with
    | zero => rfl
    | succ n ih => simp [sumTo, ih]
  rw [this]
  simp [Blk.zero]
theorem outs_zero (n k : Nat) : outs n (fun _ => Blk.zero) k = 0 := by
  unfold outs among
  rw [sumTo_congr (g := fun _ => 0) (fun k _ => by simp [Blk.zero])]
  have : sumTo (fun _ => 0) n = 0 := by
    induction n with
    | zero => rfl
    | succ n ih => simp [sumTo, ih]
  rw [this]
  simp [Blk.zero]

/-- of two blocks, the first place that is free is one -/
theorem first_free {B : Nat → Blk} {i j : Nat} (h0 : (B j).refs = 0) (hmin : ∀ k, k < i → (B k).refs ≠ 0) : i ≤ j := by
  rcases Nat.lt_or_ge j i with h | h
  · exact absurd h0 (hmin j h)
  · exact h

def leafK : Blk := ⟨0, 0, [], [1, 2, 3, 4]⟩
def nodeK : Blk := ⟨0, 1, [0, 1, 0, 1], []⟩
def B1 : Nat → Blk := made (fun _ => Blk.zero) leafK 0
def B2 : Nat → Blk := made B1 nodeK 1

theorem make1 : Makeable 3 (fun _ => Blk.zero) leafK := by
  refine ⟨right_zero 3 (by omega), .inr ⟨by simp [leafK], .inl ⟨rfl, rfl, rfl⟩⟩, 0, by omega, rfl⟩
theorem right1 : Right 3 B1 := right_made make1.1 make1.2.1 (by omega) rfl (by
  intro k hk
  match k, hk with
  | 0, _ => decide
  | 1, _ => decide
  | 2, _ => decide)
theorem make2 : Makeable 3 B1 nodeK := by
  refine ⟨right1, .inr ⟨by simp [nodeK], .inr ⟨by simp [nodeK], rfl, rfl, ?_, 1, by simp [nodeK], by omega⟩⟩, 1, by omega, rfl⟩
  intro k hk
  simp [nodeK] at hk
  rcases hk with rfl | rfl | rfl | rfl
  · exact .inl rfl
  · exact .inr ⟨⟨by omega, by omega, by decide⟩, rfl⟩
  · exact .inl rfl
  · exact .inr ⟨⟨by omega, by omega, by decide⟩, rfl⟩
theorem right2 : Right 3 B2 := right_made make2.1 make2.2.1 (by omega) rfl (by
  intro k hk
  match k, hk with
  | 0, _ => decide
  | 1, _ => decide
  | 2, _ => decide)
theorem outs2 (k : Nat) (hk : k < 3) : outs 3 B2 k = if k = 2 then 0 else 1 := by
  unfold B2
  rw [outs_made make2.1 make2.2.1 (by omega) rfl k hk]
  by_cases e : k = 1
  · subst e; rfl
  · rw [if_neg e]
    unfold B1
    rw [outs_made make1.1 make1.2.1 (by omega) rfl k hk]
    by_cases e2 : k = 0
    · subst e2; rfl
    · rw [if_neg e2, outs_zero, if_pos (by omega)]

theorem Fell.outs {n : Nat} {B C : Nat → Blk} {T : List Int} (h : Fell n B C T) (k : Nat) (hk : k < n) : outs n C k = outs n B k - (T.count ((k : Int) + 1) : Int) := h.out k hk

theorem droppable_of {n : Nat} {B : Nat → Blk} (hR : Right n B) {i : Nat} (hi : i < n) (ho : 0 < outs n B i) : Droppable n B ((i : Int) + 1) := by
  have e : ((i : Int) + 1 - 1).toNat = i := by omega
  unfold Droppable There
  rw [e]
  unfold outs at ho
  exact ⟨hR, ⟨by omega, by omega, by omega⟩, by omega⟩

theorem used_none {B : Nat → Blk} : ∀ {n : Nat}, (∀ i, i < n → (B i).refs = 0) → usedTo B n = 0
  | 0, _ => rfl
  | n + 1, h => by
    rw [usedTo_succ, used_none (fun i hi => h i (by omega)), h n (by omega)]
    simp
end Go.Proofs.YtnmcgmpmcliinaaGreat

namespace Go.Proofs.YtnmcgmpmcliinaaGreat
open Go.RowKit

set_option maxHeartbeats 1000000 in
set_option maxRecDepth 100000 in
theorem equalInts_same (a1 a2 : Option Addr) (n c d : Nat) (Q1 Q2 : Nat → Prop) (xs : List Int) (w : World) (hn : n ≤ 1000) (h1 : NumsAt Q1 .i64 w a1 n xs) (h2 : NumsAt Q2 .i64 w a2 n xs) :
    Calls Tryz.prog 105 #[.slice a1 n c, .slice a2 n d] w fun e w' => e = .returned (.bool true) ∧ ∃ q, w' = w.drewN q := by
  replace h1 := hid h1
  replace h2 := hid h2
  go_enter Tryz.func105, Tryz.ntmps105
  go_wp2
  go_loopw [13] (fun i wr => ∃ k q : Nat, k ≤ n ∧ i = .int .i64 k ∧ wr = w.drewN q) (fun i _ => n - (Go.RowKit.intOf i).toNat)
  case atStart => exact ⟨0, 0, Nat.zero_le _, rfl, rfl⟩
  case round =>
    obtain ⟨k, q, hk, rfl, rfl⟩ := hrel
    by_cases hlt : k < n
    · obtain ⟨b1, o1, rfl, _, _, hc1⟩ := h1.out.2.2 (by omega)
      obtain ⟨b2, o2, rfl, _, _, hc2⟩ := h2.out.2.2 (by omega)
      have g1 := hc1 k (by omega)
      have g2 := hc2 k (by omega)
      clear hc1 hc2 h1 h2
      generalize xs.getD k 0 = x at *
      go_wp2_with fail
      go_quiet (fail)
      go_wp2
      go_roundw
      case rel => exact ⟨k + 1, q + nq, by omega, by go_num, rfl⟩
      case measure => simp [Go.RowKit.intOf]; omega
    · have : k = n := by omega
      subst this
      clear h1 h2
      go_wp2
      go_ret
      exact ⟨rfl, q, rfl⟩

theorem at_any (k n : Int) (w : World) (h0 : 1 ≤ n) (h1 : n ≤ 1000) :
    Calls Tryz.prog 13 #[.int .i64 k, .int .i64 n] w fun e w' => (∃ r : Nat, e = .returned (.int .i64 r) ∧ (r : Int) < n) ∧ w' = w := by
  have t1 := Int.tmod_lt_of_pos k (show 0 < n by omega)
  have t2 : -n < k.tmod n := by have := Int.tmod_lt_of_pos (-k) (show 0 < n by omega); rw [Int.neg_tmod] at this; omega
  have hnz : (n == 0) = false := by simp; omega
  generalize ht : k.tmod n = t at t1 t2
  by_cases hneg : t < 0
  · go_enter Tryz.func13, Tryz.ntmps13
    go_wp2
    go_ret
    exact ⟨⟨(t + n).toNat, congrArg (fun z => Ending.returned (.int .i64 z)) (show t + n = ((t + n).toNat : Int) by omega), by omega⟩, rfl⟩
  · go_enter Tryz.func13, Tryz.ntmps13
    go_wp2
    go_ret
    exact ⟨⟨t.toNat, congrArg (fun z => Ending.returned (.int .i64 z)) (show t = (t.toNat : Int) by omega), by omega⟩, rfl⟩

theorem Row.nums {w : World} {base g n : Nat} {f : Nat → Int} (r : Row w base g n f) (hf : ∀ k, k < n → -9223372036854775808 ≤ f k ∧ f k ≤ 9223372036854775807) : NumsAt (fun b => base ≤ b) .i64 w (some ⟨g, 0, none⟩) n ((List.range n).map f) := by
  refine ⟨by simp, ?_, fun hn => ⟨g, 0, rfl, r.lt.2, r.lt.1, fun i hi => ?_⟩⟩
  · intro x hx
    simp only [List.mem_map, List.mem_range] at hx
    obtain ⟨k, hk, rfl⟩ := hx
    exact WalkArith.wf_i64 (hf k hk)
  · rw [Nat.zero_add, r.cell hi]
    simp [List.getD, hi]

theorem lit_nums (w : World) (xs : List Int) (t : TypeId) (k : IntKind) (hw : ∀ x ∈ xs, (Lit.int k x).wf = true) : NumsAt (fun b => w.heap.size ≤ b) k (w.alloc (.cells (xs.map (Value.int k)).toArray t)) (some ⟨w.heap.size, 0, none⟩) xs.length xs := by
  refine ⟨rfl, hw, fun hn => ⟨_, _, rfl, by simp, Nat.le_refl _, fun i hi => ?_⟩⟩
  rw [World.cell?_alloc_at _ _ _ _ rfl, Nat.zero_add]
  simp [List.getD, hi]

/-- a variable that holds a store is given another one -/
theorem cur_set {w : World} {q base g n : Nat} {u v : Value} {t : TypeId} {B : Nat → Blk} (k : CellsAt w q #[u] t) (hq : q < base) (hg : base ≤ g) (hgl : g < w.heap.size) (hB : Blocks (fun b => base ≤ b) w g 0 n B) :
    CellsAt (w.setCell ⟨q, 0, none⟩ v) q #[v] t ∧ StoreAt (w.setCell ⟨q, 0, none⟩ v) (some ⟨g, 0, none⟩) n B := by
  have kk := Kept.setCell (g := q) (Kept.refl _ w) (p := ⟨q, 0, none⟩) rfl v
  refine ⟨?_, store_of (by simpa using hgl) (hB.kept (by omega) (fun b h => by omega) kk)⟩
  have := k.set 0 v
  simpa using this

end Go.Proofs.YtnmcgmpmcliinaaGreat

namespace Go.Proofs.YtnmcgmpmcliinaaGreat
open Go.RowKit

/-- what Keep refuses not -/
def Keepable (n : Nat) (B : Nat → Blk) (a : Int) : Prop := Right n B ∧ There n B a
/-- the store with the block at a held once more -/
def keptB (B : Nat → Blk) (a : Int) : Nat → Blk := upd B (a - 1).toNat { B (a - 1).toNat with refs := (B (a - 1).toNat).refs + 1 }
/-- what Keep of one's own store answers -/
def Keeped (e : Ending) (w : World) (p : Addr) (g n : Nat) (B : Nat → Blk) (a : Int) (w' : World) : Prop :=
  (∃ e' : Int, e = .returned (.int .i64 e') ∧ e' ≠ 0 ∧ ¬ Keepable n B a) ∨ (e = .returned (.int .i64 0) ∧ Keepable n B a ∧ ∃ C, OwnPtr w' p g n C ∧ C = keptB B a)
/-- what store.Keep answers -/
def RetKeep (base : Nat) (e : Ending) (w : World) (n : Nat) (B : Nat → Blk) (a : Int) : Prop :=
  (∃ e', e = .returned (.tuple #[.agg #[.slice none 0 0], .int .i64 e']) ∧ e' ≠ 0 ∧ ¬ Keepable n B a) ∨ (Keepable n B a ∧ ∃ C, RetS base e w n C ∧ C = keptB B a)

set_option maxHeartbeats 1000000 in
set_option maxRecDepth 100000 in
theorem keep_any (p : Addr) (g n : Nat) (B : Nat → Blk) (a : Int) (w : World) (h : OwnPtr w p g n B) :
    Calls Tryz.prog 173 #[.pointer (some p), .int .i64 a] w fun e w' => Keeped e w p g n B a w' ∧ Out g w w' := by
  go_enter Tryz.func173, Tryz.ntmps173
  go_wp2_with fail
  refine (checkThere_any p _ n n B a w h.ptr).mono ?_
  rintro e w1 ⟨⟨e', rfl, he⟩, b1⟩
  replace h := h.below b1
  replace he := hid he
  by_cases h0 : e' = 0
  · have h0' : (e' == 0) = true := by simp [h0]
    obtain ⟨hR, ht⟩ := he.out.1 h0
    obtain ⟨i, rfl⟩ : ∃ i : Nat, a = (i : Int) + 1 := ⟨(a - 1).toNat, by have := ht.1; omega⟩
    have ei : ((i : Int) + 1 - 1).toNat = i := by omega
    have hi : i < n := by have := ht.2.1; omega
    have hn := hR.small
    have hbd := (hR.one i hi).bounds
    obtain ⟨ka, kn, kc, ba, bn, bc, hbk⟩ := h.own.cell hi
    have c0 := hbk.c0
    have f0 := h.own.free (i * 4) (by omega)
    have s1 := h.cell
    have J : Hid (∀ w', w' = w1.setCell ⟨g, i * 4, none⟩ (.int .i64 ((B i).refs + 1)) → OwnPtr w' p g n (keptB B ((i : Int) + 1)) ∧ Out g w w') := hid (by
      intro w' hw
      subst hw
      have kk := Kept.setCell (g := g) (Kept.refl _ w1) (p := ⟨g, i * 4, none⟩) rfl (.int .i64 ((B i).refs + 1))
      refine ⟨h.kept kk ?_, (Out.of_below b1).trans (Out.of_kept kk)⟩
      unfold keptB
      rw [ei]
      exact h.own.refs hi _ (by omega))
    replace hR := hid hR
    replace ht := hid ht
    clear hbk h
    generalize (B i).refs = rf at *
    go_wp2_with fail
    refine (at_own p g n n i _ hn s1 hi).mono ?_
    rintro e w2 ⟨rfl, rfl⟩
    go_wp2_with fail
    go_ret
    exact ⟨.inr ⟨rfl, ⟨hR.out, ht.out⟩, _, (J.out _ rfl).1, rfl⟩, (J.out _ rfl).2⟩
  · have h0' : (e' == 0) = false := by simp [h0]
    replace h := hid h
    go_wp2_with fail
    go_ret
    exact ⟨.inl ⟨e', rfl, h0, fun f => h0 (he.out.2 f)⟩, Out.of_below b1⟩

set_option maxHeartbeats 1000000 in
set_option maxRecDepth 100000 in
theorem equalBytes_same (a1 a2 : Option Addr) (n c d : Nat) (Q1 Q2 : Nat → Prop) (xs : List Int) (w : World) (hn : n ≤ 1000) (h1 : NumsAt Q1 .u8 w a1 n xs) (h2 : NumsAt Q2 .u8 w a2 n xs) :
    Calls Tryz.prog 110 #[.slice a1 n c, .slice a2 n d] w fun e w' => e = .returned (.bool true) ∧ ∃ q, w' = w.drewN q := by
  replace h1 := hid h1
  replace h2 := hid h2
  go_enter Tryz.func110, Tryz.ntmps110
  go_wp2
  go_loopw [13] (fun i wr => ∃ k q : Nat, k ≤ n ∧ i = .int .i64 k ∧ wr = w.drewN q) (fun i _ => n - (Go.RowKit.intOf i).toNat)
  case atStart => exact ⟨0, 0, Nat.zero_le _, rfl, rfl⟩
  case round =>
    obtain ⟨k, q, hk, rfl, rfl⟩ := hrel
    by_cases hlt : k < n
    · obtain ⟨b1, o1, rfl, _, _, hc1⟩ := h1.out.2.2 (by omega)
      obtain ⟨b2, o2, rfl, _, _, hc2⟩ := h2.out.2.2 (by omega)
      have g1 := hc1 k (by omega)
      have g2 := hc2 k (by omega)
      clear hc1 hc2 h1 h2
      generalize xs.getD k 0 = x at *
      go_wp2_with fail
      go_quiet (fail)
      go_wp2
      go_roundw
      case rel => exact ⟨k + 1, q + nq, by omega, by go_num, rfl⟩
      case measure => simp [Go.RowKit.intOf]; omega
    · have : k = n := by omega
      subst this
      clear h1 h2
      go_wp2
      go_ret
      exact ⟨rfl, q, rfl⟩

theorem run_string_of {Q : Nat → Prop} (w : World) {a : Option Addr} {n : Nat} {l : List Int} (c : Nat) (h : NumsAt Q .u8 w a n l) :
    (convert 28 9 (.slice a n c)).run Tryz.prog w = .ok (.string (strOfNums l)) w := by
  rcases Nat.eq_zero_or_pos n with hn | hn
  · subst hn
    obtain rfl : l = [] := List.eq_nil_of_length_eq_zero h.1
    rw [run_convert_bytes_string w 28 9 5 _ 0 c Tryz.underlying28 Tryz.underlying5 Tryz.underlying9]
    cases a <;> simp [Conv.bytesToString, loadCells]
    all_goals rfl
  · obtain ⟨b, off, rfl, _, _, hc⟩ := h.2.2 hn
    exact run_convert_bytes_arg w 28 5 Tryz.underlying28 Tryz.underlying5 b off n c l h.1 hc 9 Tryz.underlying9

theorem bytesEqual_same (a1 a2 : Option Addr) (n c m d : Nat) (Q1 Q2 : Nat → Prop) (l : List Int) (w : World) (h1 : NumsAt Q1 .u8 w a1 n l) (h2 : NumsAt Q2 .u8 w a2 m l) :
    Calls Tryz.prog 20 #[.slice a1 n c, .slice a2 m d] w fun e w' => e = .returned (.bool true) ∧ w' = w := by
  have g1 := run_string_of w c h1
  have g2 := run_string_of w d h2
  clear h1 h2
  go_enter Tryz.func20, Tryz.ntmps20
  go_wp2
  go_ret
  exact ⟨by simp, rfl⟩

theorem isCrowd_any (r lv : Int) (ka : Option Addr) (kn kc : Nat) (ba : Option Addr) (bn bc : Nat) (w : World) :
    Calls Tryz.prog 37 #[.agg #[.int .i64 r, .int .i64 lv, .slice ka kn kc, .slice ba bn bc]] w fun e w' => e = .returned (.bool (decide (999000 < r))) ∧ Below w.heap.size w w' := by
  go_enter Tryz.func37, Tryz.ntmps37
  go_wp2_with fail
  go_ret
  exact ⟨rfl, below_alloc _ _⟩

/-- it answers a place, or -1, and then none is crowded -/
def RetCr (e : Ending) (n : Nat) (B : Nat → Blk) : Prop := (e = .returned (.int .i64 (-1)) ∧ ∀ k, k < n → (B k).refs ≤ 999000) ∨ (∃ i : Nat, e = .returned (.int .i64 i))

set_option maxHeartbeats 1000000 in
set_option maxRecDepth 100000 in
theorem indexCrowd_any (a : Option Addr) (n c : Nat) (B : Nat → Blk) (w : World) (hn : n ≤ 9223372036854775807) (h : StoreAt w a n B) :
    Calls Tryz.prog 72 #[.slice a n c, .func (.func 37) #[] #[]] w fun e w' => RetCr e n B ∧ Below w.heap.size w w' := by
  go_enter Tryz.func72, Tryz.ntmps72
  go_wp2_with fail
  go_loopw [8] (fun v wr => ∃ i : Nat, i ≤ n ∧ v = .int .i64 i ∧ (∀ k, k < i → (B k).refs ≤ 999000) ∧ Below w.heap.size w wr) (fun v _ => n - (Go.RowKit.intOf v).toNat)
  case atStart => exact ⟨0, Nat.zero_le _, rfl, fun k hk => absurd hk (by omega), Below.refl _ _⟩
  case round =>
    obtain ⟨i, hin, rfl, hno, hbel⟩ := hrel
    replace hno := hid hno
    by_cases hlt : i < n
    · obtain ⟨b, off, rfl, hb, hB⟩ := (h.below hbel) (by omega)
      obtain ⟨ka, kn, kc, ba, bn, bc, hblk⟩ := hB i hlt
      have c0 := hblk.c0
      have c1 := hblk.c1
      have c2 := hblk.c2
      have c3 := hblk.c3
      clear hB hblk
      generalize hrf : (B i).refs = rf at *
      replace hrf := hid hrf
      generalize (B i).level = lv at *
      go_wp2_with fail
      refine (isCrowd_any rf lv ka kn kc ba bn bc wr).mono ?_
      rintro e w1 ⟨rfl, b1⟩
      replace hbel := Below.tr hbel b1
      by_cases h0 : 999000 < rf
      · have h0' : decide (999000 < rf) = true := by simp [h0]
        go_wp2_with fail
        go_ret
        exact ⟨.inr ⟨i, rfl⟩, hbel⟩
      · have h0' : decide (999000 < rf) = false := by simp; omega
        go_wp2_with fail
        go_roundw
        case rel =>
          refine ⟨i + 1, by omega, by go_num, fun k hk => ?_, hbel⟩
          rcases Nat.lt_or_ge k i with h' | h'
          · exact hno.out k h'
          · obtain rfl : k = i := by omega
            rw [hrf.out]; omega
        case measure => simp [Go.RowKit.intOf]; omega
    · obtain rfl : i = n := by omega
      go_wp2_with fail
      go_ret
      exact ⟨.inl ⟨rfl, hno.out⟩, hbel⟩

/-- it answers a Bool; false: none is crowded -/
def RetCb (e : Ending) (n : Nat) (B : Nat → Blk) : Prop := ∃ t, e = .returned (.bool t) ∧ (t = false → ∀ k, k < n → (B k).refs ≤ 999000)

theorem containsCrowd_any (a : Option Addr) (n c : Nat) (B : Nat → Blk) (w : World) (hn : n ≤ 9223372036854775807) (h : StoreAt w a n B) :
    Calls Tryz.prog 36 #[.slice a n c, .func (.func 37) #[] #[]] w fun e w' => RetCb e n B ∧ Below w.heap.size w w' := by
  go_enter Tryz.func36, Tryz.ntmps36
  go_wp2_with fail
  refine (indexCrowd_any a n c B w hn h).mono ?_
  rintro e w1 ⟨⟨rfl, hno⟩ | ⟨i, rfl⟩, b1⟩
  · replace hno := hid hno
    go_wp2_with fail
    go_ret
    exact ⟨⟨_, rfl, fun _ => hno.out⟩, b1⟩
  · go_wp2_with fail
    go_ret
    exact ⟨⟨_, rfl, fun f => by simp at f; try omega⟩, b1⟩

theorem crowded_any (a : Option Addr) (n c : Nat) (B : Nat → Blk) (w : World) (hn : n ≤ 9223372036854775807) (h : StoreAt w a n B) :
    Calls Tryz.prog 14 #[.agg #[.slice a n c]] w fun e w' => RetCb e n B ∧ Below w.heap.size w w' := by
  have b0 := below_alloc w (.cells #[.slice a n c] 24)
  replace h := hid h
  go_enter Tryz.func14, Tryz.ntmps14
  go_wp2_with fail
  refine (containsCrowd_any a n c B _ hn (h.out.below b0)).mono ?_
  rintro e w1 ⟨⟨t, rfl, ht⟩, b1⟩
  replace ht := hid ht
  replace b1 := Below.tr b0 b1
  go_wp2_with fail
  go_ret
  exact ⟨⟨t, rfl, ht.out⟩, b1⟩

end Go.Proofs.YtnmcgmpmcliinaaGreat

namespace Go.Proofs.YtnmcgmpmcliinaaGreat
open Go.RowKit Go.Maps

/-- reached: in each set that holds the roots, and with a block its kids -/
def Clo (B : Nat → Blk) (l : List Int) (x : Int) : Prop :=
  ∀ S : Int → Prop, (∀ r ∈ l, r ≠ 0 → S r) → (∀ y, S y → ∀ k ∈ (B (y - 1).toNat).kids, k ≠ 0 → S k) → S x
theorem Clo.root {B : Nat → Blk} {l : List Int} {x : Int} (h : x ∈ l) (h0 : x ≠ 0) : Clo B l x := fun S h1 _ => h1 x h h0
theorem Clo.kid {B : Nat → Blk} {l : List Int} {x k : Int} (h : Clo B l x) (hk : k ∈ (B (x - 1).toNat).kids) (h0 : k ≠ 0) : Clo B l k := fun S h1 h2 => h2 x (h S h1 h2) k hk h0
theorem Clo.mono {B : Nat → Blk} {l m : List Int} {x : Int} (h : Clo B l x) (hs : ∀ r ∈ l, r ≠ 0 → Clo B m r) : Clo B m x :=
  h _ hs fun y hy k hk h0 => hy.kid hk h0
theorem Clo.nil {B : Nat → Blk} {x : Int} (h : Clo B [] x) : False := h (fun _ => False) (by simp) (by simp)

/-- roots are 0 or there -/
def RootsOk (n : Nat) (B : Nat → Blk) (l : List Int) : Prop := ∀ r ∈ l, r = 0 ∨ There n B r
theorem Clo.there {n : Nat} {B : Nat → Blk} {l : List Int} {x : Int} (hR : Right n B) (hl : RootsOk n B l) (h : Clo B l x) : There n B x := by
  refine h (There n B) (fun r hr h0 => (hl r hr).resolve_left h0) fun y hy k hk h0 => ?_
  rcases (hR.one _ (ix hy.1 hy.2.1).1).kids k hk with h | ⟨h, _⟩
  · exact absurd h h0
  · exact h

theorem pigeon : ∀ (n : Nat) (V : List Int), V.Nodup → (∀ x ∈ V, 1 ≤ x ∧ x ≤ n) → V.length ≤ n
  | 0, V, _, h => by
    cases V with
    | nil => simp
    | cons x r => have := h x (by simp); omega
  | n + 1, V, hn, h => by
    by_cases hm : ((n : Int) + 1) ∈ V
    · have h1 := pigeon n (V.erase ((n : Int) + 1)) (hn.erase _) (fun x hx => by
        have hx' := (hn.mem_erase_iff).1 hx
        have := h x hx'.2
        have := hx'.1
        omega)
      have h2 := List.length_erase_of_mem hm
      have h3 : 0 < V.length := List.length_pos_of_mem hm
      omega
    · have := pigeon n V hn (fun x hx => by
        have h1 := h x hx
        have : x ≠ (n : Int) + 1 := fun e => hm (e ▸ hx)
        omega)
      omega

theorem law3 : Keyed Tryz.prog 3 := int_keyed Tryz.underlying3
theorem zeroInt (w : World) : (zeroValue 3).run Tryz.prog w = .ok (.int .i64 0) w := by kernel_rfl

/-- the map of what was seen: V, each once -/
def Seen (w : World) (b : Nat) (V : List Int) : Prop :=
  ∃ D : DataW Unit, w.ownsMap Tryz.prog 3 (plainElem Tryz.prog 3) b V.length D ∧ IsMap D ∧ V.Nodup ∧ (∀ x, x ∈ V ↔ has D (.int .i64 x) = true) ∧ ∀ x ∈ V, ∀ z, D.atKey (.int .i64 x) z = .lit (.int .i64 1)

theorem Seen.out {w w' : World} {b : Nat} {V : List Int} (h : Seen w b V) (hb : w'.heap[b]? = w.heap[b]?) : Seen w' b V := by
  obtain ⟨D, ⟨es, clock, h1, h2, h3, h4⟩, r⟩ := h
  exact ⟨D, ⟨es, clock, hb.trans h1, h2, h3, h4⟩, r⟩

theorem isKeyLit_int (x : Int) : WideAt.IsKeyLit (.int .i64 x) := by first | exact ⟨_, _, rfl⟩ | trivial | (unfold WideAt.IsKeyLit; simp)

theorem seen_put {D : DataW Unit} {V : List Int} {x : Int} (hD : IsMap D) (hn : V.Nodup) (hx : x ∉ V) (hm : ∀ x, x ∈ V ↔ has D (.int .i64 x) = true) (ha : ∀ x ∈ V, ∀ z, D.atKey (.int .i64 x) z = .lit (.int .i64 1)) :
    IsMap (D.put (.int .i64 x) (.lit (.int .i64 1))) ∧ (V ++ [x]).Nodup ∧ (∀ y, y ∈ V ++ [x] ↔ has (D.put (.int .i64 x) (.lit (.int .i64 1))) (.int .i64 y) = true) ∧ ∀ y ∈ V ++ [x], ∀ z, (D.put (.int .i64 x) (.lit (.int .i64 1))).atKey (.int .i64 y) z = .lit (.int .i64 1) := by
  refine ⟨hD.put _ _, List.nodup_append.2 ⟨hn, by simp, fun a ha b hb => by simp at hb; subst hb; exact fun e => hx (e ▸ ha)⟩, fun y => ?_, fun y hy z => ?_⟩
  · by_cases e : y = x
    · subst e; simp [has_put_same hD (isKeyLit_int y)]
    · rw [has_put_other (by simpa using e)]
      simp [hm y, e]
  · by_cases e : y = x
    · subst e; rw [atKey_put_same hD (isKeyLit_int y)]
    · rw [atKey_put_other (by simpa using e)]
      exact ha y (by simpa [e] using hy) z
end Go.Proofs.YtnmcgmpmcliinaaGreat

namespace Go.Proofs.YtnmcgmpmcliinaaGreat
open Go.RowKit Go.Maps

/-- what the closure finds, W having been the world ahead of the map -/
structure RE (W w : World) (mb wb sb : Nat) : Prop where
  bel : Below W.heap.size W w
  m : CellsAt w mb #[.map (some W.heap.size)] 80
  l : CellsAt w wb #[.func (.func 140) #[] #[.pointer (some ⟨mb, 0, none⟩), .pointer (some ⟨wb, 0, none⟩), .pointer (some ⟨sb, 0, none⟩)]] 203
  nm : mb ≠ W.heap.size
  nw : wb ≠ W.heap.size
theorem RE.grown {W w w' : World} {mb wb sb : Nat} (h : RE W w mb wb sb) (hg : w.grownBy w' (some W.heap.size)) : RE W w' mb wb sb := by
  refine ⟨h.bel.grown hg h.bel.size (fun k hk => by cases hk; exact Nat.le_refl _), ?_, ?_, h.nm, h.nw⟩
  · unfold CellsAt
    rw [hg.block mb h.m.lt (by simp; exact h.nm)]
    exact h.m
  · unfold CellsAt
    rw [hg.block wb h.l.lt (by simp; exact h.nw)]
    exact h.l
theorem RE.drew {W w : World} {mb wb sb : Nat} (h : RE W w mb wb sb) : RE W w.drew mb wb sb := ⟨h.bel.drew, h.m, h.l, h.nm, h.nw⟩

/-- what has been seen when some of l have been walked -/
structure Got (n : Nat) (B : Nat → Blk) (l l' : List Int) (V V' : List Int) : Prop where
  there : ∀ x ∈ V', There n B x
  sub : ∀ x ∈ V, x ∈ V'
  all : ∀ x ∈ l', x ≠ 0 → x ∈ V'
  clo : ∀ x ∈ V', x ∈ V ∨ Clo B l x
  shut : ∀ x ∈ V', x ∉ V → ∀ k ∈ (B (x - 1).toNat).kids, k ≠ 0 → k ∈ V'

theorem Got.start {n : Nat} {B : Nat → Blk} (l : List Int) {V : List Int} (h : ∀ x ∈ V, There n B x) : Got n B l [] V V := ⟨h, fun x hx => hx, by simp, fun x hx => .inl hx, fun x hx hn => absurd hx hn⟩
theorem Got.skip {n : Nat} {B : Nat → Blk} {l l' V V' : List Int} (h : Got n B l l' V V') {x : Int} (hx : x = 0 ∨ x ∈ V') : Got n B l (l' ++ [x]) V V' :=
  ⟨h.there, h.sub, fun y hy h0 => by
    rcases List.mem_append.1 hy with hy | hy
    · exact h.all y hy h0
    · simp at hy
      subst hy
      exact hx.resolve_left h0, h.clo, h.shut⟩
theorem Got.next {n : Nat} {B : Nat → Blk} {l l' V V' V'' : List Int} (h : Got n B l l' V V') {x : Int} (hx0 : x ≠ 0) (hxl : x ∈ l) (hxt : There n B x)
    (k : Got n B (B (x - 1).toNat).kids (B (x - 1).toNat).kids (V' ++ [x]) V'') : Got n B l (l' ++ [x]) V V'' := by
  have hxin : x ∈ V'' := k.sub x (by simp)
  refine ⟨k.there, fun y hy => k.sub y (by simp [h.sub y hy]), fun y hy h0 => ?_, fun y hy => ?_, fun y hy hn => ?_⟩
  · rcases List.mem_append.1 hy with hy | hy
    · exact k.sub y (by simp [h.all y hy h0])
    · simp at hy; subst hy; exact hxin
  · rcases k.clo y hy with h1 | h1
    · rcases List.mem_append.1 h1 with h2 | h2
      · exact h.clo y h2
      · simp at h2; subst h2; exact .inr (Clo.root hxl hx0)
    · exact .inr (h1.mono fun r hr h0 => (Clo.root hxl hx0).kid hr h0)
  · intro z hz h0
    by_cases e : y = x
    · subst e; exact k.all z hz h0
    · by_cases e2 : y ∈ V'
      · exact k.sub z (by simp [h.shut y e2 hn z hz h0])
      · exact k.shut y hy (by simp [e, e2]) z hz h0

/-- what the closure leaves -/
def Walked (W : World) (mb wb sb n : Nat) (B : Nat → Blk) (l V : List Int) (w' : World) : Prop := ∃ V', RE W w' mb wb sb ∧ Seen w' W.heap.size V' ∧ Got n B l l V V'

set_option maxHeartbeats 4000000 in
set_option maxRecDepth 100000 in
theorem walk_any (W : World) (p : Addr) (a : Option Addr) (n c : Nat) (B : Nat → Blk) (sb mb wb : Nat) (hP : PtrAt W p a n c B) (hs : W.cell? ⟨sb, 0, none⟩ = some (.pointer (some p))) (hsb : sb < W.heap.size) (hR : Right n B) (f : Nat) :
    ∀ (l : List Int) (la : Option Addr) (ln lc : Nat) (V : List Int) (w : World), NumsAt (fun _ => True) .i64 W la ln l → (∀ x ∈ l, x = 0 ∨ (There n B x ∧ (B (x - 1).toNat).level < f)) → (∀ x ∈ V, There n B x) → RE W w mb wb sb → Seen w W.heap.size V → ln < 9223372036854775807 →
    Calls Tryz.prog 140 #[.slice la ln lc, .pointer (some ⟨mb, 0, none⟩), .pointer (some ⟨wb, 0, none⟩), .pointer (some ⟨sb, 0, none⟩)] w fun e w' => e = .returned (.tuple #[]) ∧ Walked W mb wb sb n B l V w' := by
  induction f using Nat.strongRecOn with
  | _ f ih =>
    intro l la ln lc V w hN hl hV hE hS hln
    have hn := hR.small
    replace ih := hid ih
    replace hN := hid hN
    replace hl := hid hl
    replace hV := hid hV
    replace hR := hid hR
    replace hE := hid hE
    replace hS := hid hS
    go_enter Tryz.func140, Tryz.ntmps140
    go_wp2_with fail
    go_loopw [9] (fun v wr => ∃ j : Nat, j ≤ ln ∧ v = .int .i64 j ∧ ∃ Vj, RE W wr mb wb sb ∧ Seen wr W.heap.size Vj ∧ Got n B l (l.take j) V Vj) (fun v _ => ln - (Go.RowKit.intOf v).toNat)
    case atStart => exact ⟨0, Nat.zero_le _, rfl, V, hE.out, hS.out, by simpa using Got.start l hV.out⟩
    case round =>
      clear hE hS
      obtain ⟨j, hjn, rfl, Vj, hE, hS, hG⟩ := hrel
      by_cases hlt : j < ln
      · obtain ⟨kb, ko, rfl, hkb, _, hc⟩ := hN.out.2.2 (by omega)
        have hck : wr.cell? ⟨kb, ko + j, none⟩ = some (.int .i64 (l.getD j 0)) := (hE.bel.cell (p := ⟨kb, ko + j, none⟩) hkb).trans (hc j hlt)
        have hjl : j < l.length := by rw [hN.out.1]; exact hlt
        have hmem : l.getD j 0 ∈ l := hN.out.getD hlt
        have htk := hid (take_snoc hjl)
        have hwf : (Lit.int .i64 (l.getD j 0)).wf = true := hN.out.2.1 _ hmem
        have hkid := hid (hl.out _ hmem)
        have m0 := hE.m.cell 0
        have l0 := hE.l.cell 0
        simp at m0 l0
        replace hmem := hid hmem
        clear hc hjl
        generalize l.getD j 0 = x at *
        by_cases hx0 : x = 0
        · have hx0' : (x == 0) = true := by simp [hx0]
          have hG' : Hid (Got n B l (l.take (j + 1)) V Vj) := hid (by rw [htk.out]; exact hG.skip (.inl hx0))
          replace hE := hid hE
          replace hS := hid hS
          clear hG
          go_wp2_with fail
          go_roundw
          case rel => exact ⟨j + 1, by omega, by go_num, Vj, hE.out, hS.out, hG'.out⟩
          case measure => simp [Go.RowKit.intOf]; omega
        · have hx0' : (x == 0) = false := by simp [hx0]
          obtain ⟨D, hown, hD, hnd, hm, hat⟩ := hS
          obtain ⟨cv, hrun, hcv, hwc⟩ := hown.lookup_int law3 Tryz.underlying80 Tryz.underlying3 (zeroInt _) (keyOf_int_mk Tryz.underlying3 hwf)
          by_cases hin : x ∈ Vj
          · have hc1 : cv = 1 := by
              rw [hat x hin] at hcv
              simpa using hcv.symm
            subst hc1
            have hG' : Hid (Got n B l (l.take (j + 1)) V Vj) := hid (by rw [htk.out]; exact hG.skip (.inr hin))
            have hS : Hid (Seen wr W.heap.size Vj) := hid ⟨D, hown, hD, hnd, hm, hat⟩
            replace hE := hid hE
            clear hG hown hD hnd hm hat hcv hin
            go_wp2_with fail
            go_roundw
            case rel => exact ⟨j + 1, by omega, by go_num, Vj, hE.out, hS.out, hG'.out⟩
            case measure => simp [Go.RowKit.intOf]; omega
          · have hc0 : cv = 0 := by
              have h1 : has D (.int .i64 x) = false := by
                cases h2 : has D (.int .i64 x)
                · rfl
                · exact absurd ((hm x).2 h2) hin
              rw [atKey_of_not_has h1] at hcv
              simpa using hcv.symm
            subst hc0
            have hlen : Vj.length ≤ n := pigeon n Vj hnd (fun y hy => ⟨(hG.there y hy).1, (hG.there y hy).2.1⟩)
            have hput := hid (seen_put hD hnd hin hm hat)
            have hxt := hkid.out.resolve_left hx0
            obtain ⟨i, rfl⟩ : ∃ i : Nat, x = (i : Int) + 1 := ⟨(x - 1).toNat, by have := hxt.1.1; omega⟩
            have ei : ((i : Int) + 1 - 1).toNat = i := by omega
            have hi : i < n := by have := hxt.1.2.1; omega
            replace hE := hid hE
            replace hG := hid hG
            replace hcv := hid hcv
            clear hnd hm hat hD hkid
            go_wp2_with (at_mapUpdate; refine wpList_mapUpdate_own _ rfl _ _ _ 80 rfl 3 3 law3 Tryz.underlying80 _ W.heap.size Vj.length _ rfl hown (by unfold maxLen; omega) _ _ _ rfl rfl (keyOf_int_mk Tryz.underlying3 hwf) _ [] (plainElem_int Tryz.underlying3 (WalkArith.wf_i64 (by omega))) ?_; intro w1 hown1 hgrow1)
            replace hE := hE.out.grown hgrow1
            have hlen1 : (Vj ++ [(i : Int) + 1]).length = Vj.length + 1 := by simp
            have hS1 : Seen w1 W.heap.size (Vj ++ [(i : Int) + 1]) := ⟨_, by rw [hlen1]; exact hown1, hput.out.1, hput.out.2.1, hput.out.2.2.1, hput.out.2.2.2⟩
            clear hown1 hgrow1 hput hown hrun hcv hwc m0 l0 hck hlen1
            obtain ⟨b', off', rfl, hb', hB'⟩ := hP.store (by omega)
            obtain ⟨ka, kn, kc, ba, bn, bc, hbk⟩ := hB' i hi
            have s0 := (hE.bel.cell (p := ⟨sb, 0, none⟩) hsb).trans hs
            have q0 := (hE.bel.cell (p := p) hP.lt).trans hP.cell
            have c2 := (hE.bel.cell (p := ⟨b', off' + i * 4 + 2, none⟩) hb').trans hbk.c2
            have l0 := hE.l.cell 0
            simp at l0
            have hkn : kn < 9223372036854775807 := by
              have h1 := hbk.kids.1
              have h2 := (hR.out.one i hi).few
              omega
            have hkids := hid hbk.kids
            have hlev : Hid (∀ x ∈ (B i).kids, x = 0 ∨ (There n B x ∧ (B (x - 1).toNat).level < (((B i).level.toNat : Nat) : Int))) := hid (fun x hx => by
              rcases (hR.out.one i hi).kids x hx with h | ⟨h1, h2⟩
              · exact .inl h
              · have h3 := (hR.out.one i hi).live hx
                exact .inr ⟨h1, by omega⟩)
            have hless : (B i).level.toNat < f := by
              have h1 := hxt.2
              rw [ei] at h1
              have h2 := (hR.out.one i hi).bounds
              omega
            have hV1 : Hid (∀ x ∈ Vj ++ [(i : Int) + 1], There n B x) := hid (fun x hx => by
              rcases List.mem_append.1 hx with h | h
              · exact hG.out.there x h
              · simp at h; subst h; exact hxt.1)
            have hend : Hid (∀ V'', Got n B (B i).kids (B i).kids (Vj ++ [(i : Int) + 1]) V'' → Got n B l (l.take (j + 1)) V V'') := hid (fun V'' hk => by
              rw [htk.out]
              exact hG.out.next hx0 hmem.out hxt.1 (by rw [ei]; exact hk))
            replace hE := hid hE
            replace hS1 := hid hS1
            replace hP := hid hP
            replace hxt := hid hxt
            clear hbk hB' hb' ei hG
            go_upto_region 5 with fail
            go_region_with (first
              | (go_at_call 121; refine (at_ptr p b' off' n c i _ hn ?_ hi).mono ?_; exact q0; rintro e w' ⟨rfl, rfl⟩)
              | (go_at_call 140; refine (ih.out (B i).level.toNat hless (B i).kids ka kn kc (Vj ++ [(i : Int) + 1]) _ hkids.out hlev.out hV1.out ?_ ?_ hkn).mono ?_; exact hE.out.drew; exact hS1.out.out rfl; rintro e w' ⟨rfl, V'', hE2, hS2, hG2⟩; replace hE2 := hid hE2; replace hS2 := hid hS2; replace hG2 := hid hG2))
            all_goals (clear s0 q0 c2 l0; go_wp2_with fail; go_roundw)
            all_goals first
              | exact ⟨j + 1, by omega, by go_num, V'', hE2.out, hS2.out, hend.out V'' hG2.out⟩
              | (simp [Go.RowKit.intOf]; omega)
      · obtain rfl : j = ln := by omega
        have hG' : Hid (Got n B l l V Vj) := hid (by rw [List.take_of_length_le (by rw [hN.out.1]; exact Nat.le_refl _)] at hG; exact hG)
        replace hE := hid hE
        replace hS := hid hS
        clear hG
        go_wp2_with fail
        go_end0
        exact ⟨rfl, Vj, hE.out, hS.out, hG'.out⟩

end Go.Proofs.YtnmcgmpmcliinaaGreat
