/-
  Two right stores that are held alike are one; what is made and let go, held and let go; what is reached behind a Drop. Nothing here is trusted.
-/
import Derived.Test.YtaagnojdpediladBack1
import Derived.Test.YtaagnojdpediladReach2
import Derived.Test.YtaagnojdpediladStoreFreesWalk
set_option linter.unusedVariables false
namespace Go.Proofs.Ytaagnojdpedilad

/-- where both are there they say the same -/
def Like (n : Nat) (B C : Nat → Blk) : Prop := ∀ i, i < n → (B i).refs = 0 ∨ (C i).refs = 0 ∨ ((B i).level = (C i).level ∧ (B i).kids = (C i).kids ∧ (B i).bytes = (C i).bytes)
theorem Like.symm {n : Nat} {B C : Nat → Blk} (h : Like n B C) : Like n C B := fun i hi => by
  rcases h i hi with h | h | ⟨h1, h2, h3⟩
  · exact .inr (.inl h)
  · exact .inl h
  · exact .inr (.inr ⟨h1.symm, h2.symm, h3.symm⟩)

theorem blk_ext {b c : Blk} (h0 : b.refs = c.refs) (h1 : b.level = c.level) (h2 : b.kids = c.kids) (h3 : b.bytes = c.bytes) : b = c := by
  cases b; cases c; simp_all

theorem kid_of {n : Nat} {B : Nat → Blk} (hR : Right n B) {i j : Nat} (hj : j < n) (hm : ((i : Int) + 1) ∈ (B j).kids) : (B i).refs ≠ 0 ∧ (B j).level = (B i).level + 1 ∧ (B j).refs ≠ 0 := by
  have hl := (hR.one j hj).live hm
  rcases (hR.one j hj).kids _ hm with h | ⟨⟨_, _, h1⟩, h2⟩
  · omega
  · rw [show ((i : Int) + 1 - 1).toNat = i by omega] at h1 h2
    exact ⟨h1, by omega, by omega⟩

theorem same_step {n : Nat} {B C : Nat → Blk} (hB : Right n B) (hC : Right n C) (hL : Like n B C) (ho : ∀ i, i < n → outs n B i = outs n C i) (l : Int)
    (hb : ∀ j, j < n → l + 1 ≤ (B j).level → (B j).refs ≠ 0 → B j = C j) (hc : ∀ j, j < n → l + 1 ≤ (C j).level → (C j).refs ≠ 0 → B j = C j) :
    ∀ i, i < n → l ≤ (B i).level → (B i).refs ≠ 0 → B i = C i := by
  intro i hi hl hr
  have hcount : among n B ((i : Int) + 1) = among n C ((i : Int) + 1) := sumTo_congr fun j hj => by
    by_cases h1 : ((i : Int) + 1) ∈ (B j).kids
    · obtain ⟨_, h2, h3⟩ := kid_of hB hj h1
      show (B j).kids.count _ = (C j).kids.count _
      rw [hb j hj (by omega) h3]
    · by_cases h2 : ((i : Int) + 1) ∈ (C j).kids
      · obtain ⟨h3, h4, h5⟩ := kid_of hC hj h2
        have h6 : (B i).level = (C i).level := by
          rcases hL i hi with h | h | ⟨h, _⟩
          · exact absurd h hr
          · exact absurd h h3
          · exact h
        show (B j).kids.count _ = (C j).kids.count _
        rw [hc j hj (by omega) h5]
      · show (B j).kids.count _ = (C j).kids.count _
        rw [List.count_eq_zero.2 h1, List.count_eq_zero.2 h2]
  have h1 := ho i hi
  unfold outs at h1
  rw [hcount] at h1
  have h2 : (B i).refs = (C i).refs := by omega
  rcases hL i hi with h | h | ⟨h3, h4, h5⟩
  · exact absurd h hr
  · omega
  · exact blk_ext h2 h3 h4 h5

theorem same_of {n : Nat} {B C : Nat → Blk} (hB : Right n B) (hC : Right n C) (hL : Like n B C) (ho : ∀ i, i < n → outs n B i = outs n C i) : ∀ i, i < n → B i = C i := by
  have step : ∀ d : Nat, d ≤ 4 → (∀ i, i < n → (4 : Int) - d ≤ (B i).level → (B i).refs ≠ 0 → B i = C i) ∧ (∀ i, i < n → (4 : Int) - d ≤ (C i).level → (C i).refs ≠ 0 → B i = C i) := by
    intro d
    induction d with
    | zero =>
      intro _
      exact ⟨fun i hi hl _ => by have := (hB.one i hi).bounds; omega, fun i hi hl _ => by have := (hC.one i hi).bounds; omega⟩
    | succ d ih =>
      intro hd
      obtain ⟨h1, h2⟩ := ih (by omega)
      have h1' : ∀ j, j < n → ((4 : Int) - (d + 1 : Nat)) + 1 ≤ (B j).level → (B j).refs ≠ 0 → B j = C j := fun j hj hl => h1 j hj (by omega)
      have h2' : ∀ j, j < n → ((4 : Int) - (d + 1 : Nat)) + 1 ≤ (C j).level → (C j).refs ≠ 0 → B j = C j := fun j hj hl => h2 j hj (by omega)
      exact ⟨same_step hB hC hL ho _ h1' h2', fun i hi hl hr => (same_step hC hB hL.symm (fun i hi => (ho i hi).symm) _ (fun j hj a b => (h2' j hj a b).symm) (fun j hj a b => (h1' j hj a b).symm) i hi hl hr).symm⟩
  obtain ⟨h1, h2⟩ := step 4 (Nat.le_refl _)
  intro i hi
  by_cases hb : (B i).refs = 0
  · by_cases hc : (C i).refs = 0
    · rw [(hB.one i hi).zero hb, (hC.one i hi).zero hc]
    · have := (hC.one i hi).bounds
      exact h2 i hi (by omega) hc
  · have := (hB.one i hi).bounds
    exact h1 i hi (by omega) hb

theorem fell_like {n : Nat} {B C : Nat → Blk} {T : List Int} (h : Fell n B C T) : Like n C B := fun i hi => by
  rcases h.same i hi with h | ⟨_, _, h1, h2, h3⟩
  · exact .inl (by rw [h]; rfl)
  · exact .inr (.inr ⟨h1, h2, h3⟩)

theorem outs_free {n : Nat} {B : Nat → Blk} (hR : Right n B) {i : Nat} (hi : i < n) (h0 : (B i).refs = 0) : outs n B i = 0 := by
  have := hR.held i hi
  simp at this
  unfold outs
  omega

theorem made_small {n : Nat} {B : Nat → Blk} {K : Blk} {i : Nat} (hc : ∀ k, k < n → (B k).refs ≤ 999000) (hF : Form n B { K with refs := 1 }) : ∀ k, k < n → (made B K i k).refs ≤ 1000000 := by
  intro k hk
  by_cases e : k = i
  · subst e; rw [made_same]; show (1 : Int) ≤ 1000000; omega
  · rw [made_other _ _ e]
    have h1 := hc k hk
    have h2 : K.kids.count ((k : Int) + 1) ≤ K.kids.length := List.count_le_length
    have h3 : K.kids.length ≤ 4 := hF.few
    show (B k).refs + _ ≤ _
    omega

/-- what is made and let go was never there -/
theorem back_make {n : Nat} {B C : Nat → Blk} {K : Blk} {i : Nat} (hR : Right n B) (hF : Form n B { K with refs := 1 }) (hi : i < n) (h0 : (B i).refs = 0) (hC : Right n C) (hD : Fell n (made B K i) C [(i : Int) + 1]) : ∀ k, k < n → C k = B k := by
  refine same_of hC hR (fun k hk => ?_) fun k hk => ?_
  · rcases fell_like hD k hk with h | h | ⟨h1, h2, h3⟩
    · exact .inl h
    · by_cases e : k = i
      · subst e; exact .inr (.inl h0)
      · rw [made_other _ _ e] at h
        have h1 := (hR.one k hk).bounds
        have h2 : (B k).refs + (K.kids.count ((k : Int) + 1) : Int) = 0 := h
        exact .inr (.inl (by omega))
    · by_cases e : k = i
      · subst e; exact .inr (.inl h0)
      · rw [made_other _ _ e] at h1 h2 h3
        exact .inr (.inr ⟨h1, h2, h3⟩)
  · rw [hD.outs k hk, outs_made hR hF hi h0 k hk]
    by_cases e : k = i
    · subst e
      rw [if_pos rfl, outs_free hR hk h0, List.count_cons_self]
      simp
    · rw [if_neg e, List.count_cons_of_ne (by omega)]
      simp

theorem sumTo_one' {f g : Nat → Nat} {i : Nat} : ∀ {n : Nat}, i < n → (∀ j, j < n → j ≠ i → f j = g j) → sumTo f n + g i = sumTo g n + f i
  | n + 1, hi, h => by
    simp only [sumTo]
    by_cases e : i = n
    · subst e
      rw [sumTo_congr (f := f) (g := g) (fun j hj => h j (by omega) (by omega))]; omega
    · have := sumTo_one' (f := f) (g := g) (n := n) (i := i) (by omega) (fun j hj => h j (by omega))
      rw [h n (by omega) (by omega)]; omega

theorem used_made {n : Nat} {B : Nat → Blk} {K : Blk} {i : Nat} (hR : Right n B) (hF : Form n B { K with refs := 1 }) (hi : i < n) (h0 : (B i).refs = 0) : usedTo (made B K i) n = usedTo B n + 1 := by
  have := sumTo_one' (f := fun k => if 0 < (made B K i k).refs then 1 else 0) (g := fun k => if 0 < (B k).refs then 1 else 0) (i := i) hi (fun j hj hne => by
    rw [made_other _ _ hne]
    show (if 0 < (B j).refs + (K.kids.count ((j : Int) + 1) : Int) then 1 else 0) = _
    have hb := (hR.one j hj).bounds
    by_cases e : (B j).refs = 0
    · rw [kid_free hF e, e]; simp
    · rw [if_pos (by omega), if_pos (by omega)])
  have e1 : (made B K i i).refs = 1 := by rw [made_same]
  simp only [e1, h0] at this
  unfold usedTo
  simpa using this

theorem kept_same {B : Nat → Blk} {i : Nat} : keptB B ((i : Int) + 1) i = { B i with refs := (B i).refs + 1 } := by
  unfold keptB
  rw [show ((i : Int) + 1 - 1).toNat = i by omega, upd_same]
theorem kept_other {B : Nat → Blk} {i k : Nat} (h : k ≠ i) : keptB B ((i : Int) + 1) k = B k := by
  unfold keptB
  rw [show ((i : Int) + 1 - 1).toNat = i by omega, upd_other _ _ _ _ h]
theorem among_kept {n : Nat} {B : Nat → Blk} {i : Nat} (x : Int) : among n (keptB B ((i : Int) + 1)) x = among n B x := among_congr x fun k _ => by
  by_cases e : k = i
  · subst e; rw [kept_same]
  · rw [kept_other e]
theorem outs_kept {n : Nat} {B : Nat → Blk} {i : Nat} (k : Nat) : outs n (keptB B ((i : Int) + 1)) k = if k = i then outs n B k + 1 else outs n B k := by
  unfold outs
  rw [among_kept]
  by_cases e : k = i
  · subst e; rw [kept_same, if_pos rfl]; show (B k).refs + 1 - _ = _; omega
  · rw [kept_other e, if_neg e]
theorem right_kept {n : Nat} {B : Nat → Blk} {i : Nat} (hR : Right n B) (hi : i < n) (h0 : (B i).refs ≠ 0) (hm : (B i).refs ≤ 999000) : Right n (keptB B ((i : Int) + 1)) := by
  have hth : ∀ x, There n B x → There n (keptB B ((i : Int) + 1)) x ∧ (keptB B ((i : Int) + 1) (x - 1).toNat).level = (B (x - 1).toNat).level := by
    intro x ⟨x1, x2, x3⟩
    by_cases e : (x - 1).toNat = i
    · have hb := (hR.one i hi).bounds
      rw [e, kept_same]
      refine ⟨⟨x1, x2, ?_⟩, rfl⟩
      rw [e, kept_same]
      show (B i).refs + 1 ≠ 0
      omega
    · rw [kept_other e]
      exact ⟨⟨x1, x2, by rw [kept_other e]; exact x3⟩, rfl⟩
  refine ⟨hR.small, fun k hk => ?_, fun k hk => ?_, by simp⟩
  · by_cases e : k = i
    · subst e
      rw [kept_same]
      have hb := (hR.one k hk).bounds
      exact (hR.one k hk).turn rfl rfl rfl (.inr ⟨h0, by show 1 ≤ (B k).refs + 1; omega, by show (B k).refs + 1 ≤ 1000000; omega⟩) fun x _ => hth x
    · rw [kept_other e]
      exact (hR.one k hk).turn rfl rfl rfl (.inl rfl) fun x _ => hth x
  · rw [among_kept]
    have h1 := hR.held k hk
    simp at h1 ⊢
    by_cases e : k = i
    · subst e; rw [kept_same]; show _ ≤ (B k).refs + 1; omega
    · rw [kept_other e]; exact h1
/-- what is held and let go was never held -/
theorem back_keep {n : Nat} {B C : Nat → Blk} {i : Nat} (hR : Right n B) (hi : i < n) (h0 : (B i).refs ≠ 0) (hC : Right n C) (hD : Fell n (keptB B ((i : Int) + 1)) C [(i : Int) + 1]) : ∀ k, k < n → C k = B k := by
  refine same_of hC hR (fun k hk => ?_) fun k hk => ?_
  · rcases fell_like hD k hk with h | h | ⟨h1, h2, h3⟩
    · exact .inl h
    · by_cases e : k = i
      · subst e
        rw [kept_same] at h
        have hb := (hR.one k hk).bounds
        have h2 : (B k).refs + 1 = 0 := h
        omega
      · rw [kept_other e] at h; exact .inr (.inl h)
    · by_cases e : k = i
      · subst e; rw [kept_same] at h1 h2 h3; exact .inr (.inr ⟨h1, h2, h3⟩)
      · rw [kept_other e] at h1 h2 h3; exact .inr (.inr ⟨h1, h2, h3⟩)
  · rw [hD.outs k hk, outs_kept]
    by_cases e : k = i
    · subst e; rw [if_pos rfl, List.count_cons_self]; simp
    · rw [if_neg e, List.count_cons_of_ne (by omega)]; simp
theorem drop_kept {n : Nat} {B : Nat → Blk} {i : Nat} (hR : Right n B) (hi : i < n) (h0 : (B i).refs ≠ 0) (hm : (B i).refs ≤ 999000) : Droppable n (keptB B ((i : Int) + 1)) ((i : Int) + 1) := by
  refine droppable_of (right_kept hR hi h0 hm) hi ?_
  rw [outs_kept, if_pos rfl]
  have := hR.held i hi
  simp at this
  unfold outs
  omega

/-- behind a Drop what is still held from outside is there, and all that is below -/
theorem roots_behind {n : Nat} {B C : Nat → Blk} {a : Int} {l : List Int} (hC : Right n C) (hD : Fell n B C [a]) (hl : ∀ x ∈ l, ∃ k, k < n ∧ x = (k : Int) + 1 ∧ 0 < outs n B k - (([a] : List Int).count ((k : Int) + 1) : Int)) : RootsOk n C l := by
  intro r hr
  obtain ⟨k, hk, rfl, h⟩ := hl r hr
  refine .inr ⟨by omega, by omega, ?_⟩
  rw [show ((k : Int) + 1 - 1).toNat = k by omega]
  have h1 := hD.outs k hk
  unfold outs at h1 h
  omega
theorem fell_content {n : Nat} {B C : Nat → Blk} {T : List Int} (hD : Fell n B C T) {x : Int} (hx : There n C x) : (C (x - 1).toNat).level = (B (x - 1).toNat).level ∧ (C (x - 1).toNat).kids = (B (x - 1).toNat).kids ∧ (C (x - 1).toNat).bytes = (B (x - 1).toNat).bytes := by
  rcases hD.same _ (ix hx.1 hx.2.1).1 with h | ⟨_, _, h⟩
  · exact absurd (by rw [h]; rfl) hx.2.2
  · exact h
theorem clo_behind {n : Nat} {B C : Nat → Blk} {T : List Int} {l : List Int} (hC : Right n C) (hD : Fell n B C T) (hl : RootsOk n C l) (x : Int) : (Clo B l x ↔ Clo C l x) := by
  constructor
  · intro h
    refine (h (fun y => There n C y ∧ Clo C l y) (fun r hr h0 => ⟨(hl r hr).resolve_left h0, Clo.root hr h0⟩) ?_).2
    rintro y ⟨hy, hc⟩ k hk h0
    rw [← (fell_content hD hy).2.1] at hk
    refine ⟨?_, hc.kid hk h0⟩
    rcases (hC.one _ (ix hy.1 hy.2.1).1).kids k hk with h | ⟨h, _⟩
    · exact absurd h h0
    · exact h
  · intro h
    refine (h (fun y => There n C y ∧ Clo B l y) (fun r hr h0 => ⟨(hl r hr).resolve_left h0, Clo.root hr h0⟩) ?_).2
    rintro y ⟨hy, hc⟩ k hk h0
    refine ⟨?_, hc.kid (by rw [← (fell_content hD hy).2.1]; exact hk) h0⟩
    rcases (hC.one _ (ix hy.1 hy.2.1).1).kids k hk with h | ⟨h, _⟩
    · exact absurd h h0
    · exact h
theorem rising_eq : ∀ {L M : List Int}, Rising L → Rising M → (∀ x, x ∈ L ↔ x ∈ M) → L = M
  | [], [], _, _, _ => rfl
  | [], y :: M, _, _, h => absurd ((h y).2 (by simp)) (by simp)
  | x :: L, [], _, _, h => absurd ((h x).1 (by simp)) (by simp)
  | x :: L, y :: M, hL, hM, h => by
    unfold Rising at hL hM
    rw [List.pairwise_cons] at hL hM
    have e : x = y := by
      have h1 := (h x).1 (by simp)
      have h2 := (h y).2 (by simp)
      rcases List.mem_cons.1 h1 with h1 | h1
      · exact h1
      · rcases List.mem_cons.1 h2 with h2 | h2
        · exact h2.symm
        · have := hM.1 x h1
          have := hL.1 y h2
          omega
    subst e
    rw [rising_eq (L := L) (M := M) hL.2 hM.2 (fun z => ?_)]
    constructor
    · intro hz
      rcases List.mem_cons.1 ((h z).1 (List.mem_cons_of_mem _ hz)) with h1 | h1
      · have := hL.1 z hz; omega
      · exact h1
    · intro hz
      rcases List.mem_cons.1 ((h z).2 (List.mem_cons_of_mem _ hz)) with h1 | h1
      · have := hM.1 z hz; omega
      · exact h1
end Go.Proofs.Ytaagnojdpedilad
