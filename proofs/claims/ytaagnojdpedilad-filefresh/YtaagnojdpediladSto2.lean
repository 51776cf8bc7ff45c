/-
  What Make makes of a right store. Nothing here is trusted.
-/
import Derived.Test.YtaagnojdpediladMakeS
set_option linter.unusedVariables false
namespace Go.Proofs.Ytaagnojdpedilad

theorem kid_free {n : Nat} {B : Nat → Blk} {K : Blk} {i : Nat} (hF : Form n B { K with refs := 1 }) (h0 : (B i).refs = 0) : K.kids.count ((i : Int) + 1) = 0 := by
  apply List.count_eq_zero.2
  intro hm
  rcases hF.kids _ hm with h | ⟨⟨_, _, h⟩, _⟩
  · omega
  · rw [show ((i : Int) + 1 - 1).toNat = i by omega] at h; exact h h0

theorem made_same (B : Nat → Blk) (K : Blk) (i : Nat) : made B K i i = { K with refs := 1 } := by simp [made]
theorem made_other (B : Nat → Blk) (K : Blk) {i k : Nat} (h : k ≠ i) : made B K i k = { B k with refs := (B k).refs + (K.kids.count ((k : Int) + 1) : Int) } := by simp [made, h]

theorem among_made {n : Nat} {B : Nat → Blk} {K : Blk} {i : Nat} (hi : i < n) (hz : Form n B (B i)) (h0 : (B i).refs = 0) (x : Int) : among n (made B K i) x = among n B x + K.kids.count x := by
  have h1 : among n (made B K i) x = among n (upd B i { K with refs := 1 }) x := among_congr x fun k hk => by
    by_cases e : k = i
    · subst e; rw [made_same, upd_same]
    · rw [made_other _ _ e, upd_other _ _ _ _ e]
  have h2 := among_upd (n := n) (B := B) (i := i) { K with refs := 1 } x hi
  rw [hz.zero h0] at h2
  have h3 : Blk.zero.kids.count x = 0 := by simp [Blk.zero]
  rw [h3] at h2
  rw [h1]
  simpa using h2

theorem outs_made {n : Nat} {B : Nat → Blk} {K : Blk} {i : Nat} (hR : Right n B) (hF : Form n B { K with refs := 1 }) (hi : i < n) (h0 : (B i).refs = 0) (k : Nat) (hk : k < n) : outs n (made B K i) k = if k = i then 1 else outs n B k := by
  have hm := among_made (K := K) hi (hR.one i hi) h0 ((k : Int) + 1)
  unfold outs
  by_cases e : k = i
  · subst e
    have h1 := hR.held k hk
    have h2 := kid_free hF h0
    simp at h1
    rw [made_same, if_pos rfl, hm, h2]
    show (1 : Int) - _ = 1
    omega
  · rw [made_other _ _ e, if_neg e, hm]
    show (B k).refs + _ - _ = _
    omega

theorem right_made {n : Nat} {B : Nat → Blk} {K : Blk} {i : Nat} (hR : Right n B) (hF : Form n B { K with refs := 1 }) (hi : i < n) (h0 : (B i).refs = 0) (hm : ∀ k, k < n → (made B K i k).refs ≤ 1000000) : Right n (made B K i) := by
  have hth : ∀ x, There n B x → There n (made B K i) x ∧ (made B K i (x - 1).toNat).level = (B (x - 1).toNat).level := by
    intro x ⟨x1, x2, x3⟩
    have hne : (x - 1).toNat ≠ i := fun e => x3 (by rw [e]; exact h0)
    have hb := (hR.one _ (ix x1 x2).1).bounds
    refine ⟨⟨x1, x2, ?_⟩, by rw [made_other _ _ hne]⟩
    rw [made_other _ _ hne]
    show (B (x - 1).toNat).refs + _ ≠ 0
    omega
  refine ⟨hR.small, fun k hk => ?_, fun k hk => ?_, by simp⟩
  · by_cases e : k = i
    · subst e
      rw [made_same]
      exact hF.turn rfl rfl rfl (.inl rfl) fun x _ => hth x
    · have hb := (hR.one k hk).bounds
      have hmk := hm k hk
      refine (hR.one k hk).turn (by rw [made_other _ _ e]) (by rw [made_other _ _ e]) (by rw [made_other _ _ e]) ?_ fun x _ => hth x
      rw [made_other _ _ e] at hmk ⊢
      by_cases e0 : (B k).refs = 0
      · have := kid_free hF e0
        left
        show (B k).refs + _ = _
        omega
      · right
        refine ⟨e0, ?_, hmk⟩
        show 1 ≤ (B k).refs + _
        omega
  · have h1 := outs_made hR hF hi h0 k hk
    have h2 := hR.held k hk
    simp at h2 ⊢
    unfold outs at h1
    split at h1 <;> omega

theorem right_zero (n : Nat) (hn : n ≤ 400) : Right n (fun _ => Blk.zero) := by
  refine ⟨hn, fun i _ => form_zero _ _, fun i hi => ?_, by simp⟩
  have : among n (fun _ => Blk.zero) ((i : Int) + 1) = 0 := by
    have := among_le (n := n) (B := fun _ => Blk.zero) ((i : Int) + 1)
    unfold among
    rw [sumTo_congr (g := fun _ => 0) (fun k _ => by simp [Blk.zero])]
    clear this hi hn
    induction n with
    | zero => rfl
    | succ n ih => simp [sumTo, ih]
  rw [this]
  simp [Blk.zero]
theorem outs_zero (n k : Nat) : outs n (fun _ => Blk.zero) k = 0 := by
  unfold outs among
  rw [sumTo_congr (g := fun _ => 0) (fun k _ => by simp [Blk.zero])]
  have : sumTo (fun _ => 0) n = 0 := by
    induction n with
    | zero => rfl
    | succ n ih => simp [sumTo, ih]
  rw [this]
  simp [Blk.zero]

/-- of two blocks, the first place that is free is one -/
theorem first_free {B : Nat → Blk} {i j : Nat} (h0 : (B j).refs = 0) (hmin : ∀ k, k < i → (B k).refs ≠ 0) : i ≤ j := by
  rcases Nat.lt_or_ge j i with h | h
  · exact absurd h0 (hmin j h)
  · exact h

def leafK : Blk := ⟨0, 0, [], [1, 2, 3, 4]⟩
def nodeK : Blk := ⟨0, 1, [0, 1, 0, 1], []⟩
def B1 : Nat → Blk := made (fun _ => Blk.zero) leafK 0
def B2 : Nat → Blk := made B1 nodeK 1

theorem make1 : Makeable 3 (fun _ => Blk.zero) leafK := by
  refine ⟨right_zero 3 (by omega), .inr ⟨by simp [leafK], .inl ⟨rfl, rfl, rfl⟩⟩, 0, by omega, rfl⟩
theorem right1 : Right 3 B1 := right_made make1.1 make1.2.1 (by omega) rfl (by
  intro k hk
  match k, hk with
  | 0, _ => decide
  | 1, _ => decide
  | 2, _ => decide)
theorem make2 : Makeable 3 B1 nodeK := by
  refine ⟨right1, .inr ⟨by simp [nodeK], .inr ⟨by simp [nodeK], rfl, rfl, ?_, 1, by simp [nodeK], by omega⟩⟩, 1, by omega, rfl⟩
  intro k hk
  simp [nodeK] at hk
  rcases hk with rfl | rfl | rfl | rfl
  · exact .inl rfl
  · exact .inr ⟨⟨by omega, by omega, by decide⟩, rfl⟩
  · exact .inl rfl
  · exact .inr ⟨⟨by omega, by omega, by decide⟩, rfl⟩
theorem right2 : Right 3 B2 := right_made make2.1 make2.2.1 (by omega) rfl (by
  intro k hk
  match k, hk with
  | 0, _ => decide
  | 1, _ => decide
  | 2, _ => decide)
theorem outs2 (k : Nat) (hk : k < 3) : outs 3 B2 k = if k = 2 then 0 else 1 := by
  unfold B2
  rw [outs_made make2.1 make2.2.1 (by omega) rfl k hk]
  by_cases e : k = 1
  · subst e; rfl
  · rw [if_neg e]
    unfold B1
    rw [outs_made make1.1 make1.2.1 (by omega) rfl k hk]
    by_cases e2 : k = 0
    · subst e2; rfl
    · rw [if_neg e2, outs_zero, if_pos (by omega)]

theorem Fell.outs {n : Nat} {B C : Nat → Blk} {T : List Int} (h : Fell n B C T) (k : Nat) (hk : k < n) : outs n C k = outs n B k - (T.count ((k : Int) + 1) : Int) := h.out k hk

theorem droppable_of {n : Nat} {B : Nat → Blk} (hR : Right n B) {i : Nat} (hi : i < n) (ho : 0 < outs n B i) : Droppable n B ((i : Int) + 1) := by
  have e : ((i : Int) + 1 - 1).toNat = i := by omega
  unfold Droppable There
  rw [e]
  unfold outs at ho
  exact ⟨hR, ⟨by omega, by omega, by omega⟩, by omega⟩

theorem used_none {B : Nat → Blk} : ∀ {n : Nat}, (∀ i, i < n → (B i).refs = 0) → usedTo B n = 0
  | 0, _ => rfl
  | n + 1, h => by
    rw [usedTo_succ, used_none (fun i hi => h i (by omega)), h n (by omega)]
    simp
end Go.Proofs.Ytaagnojdpedilad
