/-
  Sto3, Tree1 in one text. Nothing here is trusted.
-/
import Derived.Test.YtihkljfcplfldaaGreatPart05
import Derived.Test.YtihkljfcplfldaaGreatPart06
set_option linter.unusedVariables false
namespace Go.Proofs.YtihkljfcplfldaaGreat

/-- where both are there they say the same -/
def Like (n : Nat) (B C : Nat → Blk) : Prop := ∀ i, i < n → (B i).refs = 0 ∨ (C i).refs = 0 ∨ ((B i).level = (C i).level ∧ (B i).kids = (C i).kids ∧ (B i).bytes = (C i).bytes)
theorem Like.symm {n : Nat} {B C : Nat → Blk} (h : Like n B C) : Like n C B := fun i hi => by
  rcases h i hi with h | h | ⟨h1, h2, h3⟩
  · exact .inr (.inl h)
  · exact .inl h
  · exact .inr (.inr ⟨h1.symm, h2.symm, h3.symm⟩)

theorem blk_ext {b c : Blk} (h0 : b.refs = c.refs) (h1 : b.level = c.level) (h2 : b.kids = c.kids) (h3 : b.bytes = c.bytes) : b = c := by
  cases b; cases c; simp_all

theorem kid_of {n : Nat} {B : Nat → Blk} (hR : Right n B) {i j : Nat} (hj : j < n) (hm : ((i : Int) + 1) ∈ (B j).kids) : (B i).refs ≠ 0 ∧ (B j).level = (B i).level + 1 ∧ (B j).refs ≠ 0 := by
  have hl := (hR.one j hj).live hm
  rcases (hR.one j hj).kids _ hm with h | ⟨⟨_, _, h1⟩, h2⟩
  · omega
  · rw [show ((i : Int) + 1 - 1).toNat = i by omega] at h1 h2
    exact ⟨h1, by omega, by omega⟩

theorem same_step {n : Nat} {B C : Nat → Blk} (hB : Right n B) (hC : Right n C) (hL : Like n B C) (ho : ∀ i, i < n → outs n B i = outs n C i) (l : Int)
    (hb : ∀ j, j < n → l + 1 ≤ (B j).level → (B j).refs ≠ 0 → B j = C j) (hc : ∀ j, j < n → l + 1 ≤ (C j).level → (C j).refs ≠ 0 → B j = C j) :
    ∀ i, i < n → l ≤ (B i).level → (B i).refs ≠ 0 → B i = C i := by
  intro i hi hl hr
  have hcount : among n B ((i : Int) + 1) = among n C ((i : Int) + 1) := sumTo_congr fun j hj => by
    by_cases h1 : ((i : Int) + 1) ∈ (B j).kids
    · obtain ⟨_, h2, h3⟩ := kid_of hB hj h1
      show (B j).kids.count _ = (C j).kids.count _
      rw [hb j hj (by omega) h3]
    · by_cases h2 : ((i : Int) + 1) ∈ (C j).kids
      · obtain ⟨h3, h4, h5⟩ := kid_of hC hj h2
        have h6 : (B i).level = (C i).level := by
          rcases hL i hi with h | h | ⟨h, _⟩
          · exact absurd h hr
          · exact absurd h h3
          · exact h
        show (B j).kids.count _ = (C j).kids.count _
        rw [hc j hj (by omega) h5]
      · show (B j).kids.count _ = (C j).kids.count _
        rw [List.count_eq_zero.2 h1, List.count_eq_zero.2 h2]
  have h1 := ho i hi
  unfold outs at h1
  rw [hcount] at h1
  have h2 : (B i).refs = (C i).refs := by omega
  rcases hL i hi with h | h | ⟨h3, h4, h5⟩
  · exact absurd h hr
  · omega
  · exact blk_ext h2 h3 h4 h5

theorem same_of {n : Nat} {B C : Nat → Blk} (hB : Right n B) (hC : Right n C) (hL : Like n B C) (ho : ∀ i, i < n → outs n B i = outs n C i) : ∀ i, i < n → B i = C i := by
  have step : ∀ d : Nat, d ≤ 4 → (∀ i, i < n → (4 : Int) - d ≤ (B i).level → (B i).refs ≠ 0 → B i = C i) ∧ (∀ i, i < n → (4 : Int) - d ≤ (C i).level → (C i).refs ≠ 0 → B i = C i) := by
    intro d
    induction d with
    | zero =>
      intro _
      exact ⟨fun i hi hl _ => by have := (hB.one i hi).bounds; omega, fun i hi hl _ => by have := (hC.one i hi).bounds; omega⟩
    | succ d ih =>
      intro hd
      obtain ⟨h1, h2⟩ := ih (by omega)
      have h1' : ∀ j, j < n → ((4 : Int) - (d + 1 : Nat)) + 1 ≤ (B j).level → (B j).refs ≠ 0 → B j = C j := fun j hj hl => h1 j hj (by omega)
      have h2' : ∀ j, j < n → ((4 : Int) - (d + 1 : Nat)) + 1 ≤ (C j).level → (C j).refs ≠ 0 → B j = C j := fun j hj hl => h2 j hj (by omega)
      exact ⟨same_step hB hC hL ho _ h1' h2', fun i hi hl hr => (same_step hC hB hL.symm (fun i hi => (ho i hi).symm) _ (fun j hj a b => (h2' j hj a b).symm) (fun j hj a b => (h1' j hj a b).symm) i hi hl hr).symm⟩
  obtain ⟨h1, h2⟩ := step 4 (Nat.le_refl _)
  intro i hi
  by_cases hb : (B i).refs = 0
  · by_cases hc : (C i).refs = 0
    · rw [(hB.one i hi).zero hb, (hC.one i hi).zero hc]
    · have := (hC.one i hi).bounds
      exact h2 i hi (by omega) hc
  · have := (hB.one i hi).bounds
    exact h1 i hi (by omega) hb

theorem fell_like {n : Nat} {B C : Nat → Blk} {T : List Int} (h : Fell n B C T) : Like n C B := fun i hi => by
  rcases h.same i hi with h | ⟨_, _, h1, h2, h3⟩
  · exact .inl (by rw [h]; rfl)
  · exact .inr (.inr ⟨h1, h2, h3⟩)

theorem outs_free {n : Nat} {B : Nat → Blk} (hR : Right n B) {i : Nat} (hi : i < n) (h0 : (B i).refs = 0) : outs n B i = 0 := by
  have := hR.held i hi
  simp at this
  unfold outs
  omega

theorem made_small {n : Nat} {B : Nat → Blk} {K : Blk} {i : Nat} (hc : ∀ k, k < n → (B k).refs ≤ 999000) (hF : Form n B { K with refs := 1 }) : ∀ k, k < n → (made B K i k).refs ≤ 1000000 := by
  intro k hk
  by_cases e : k = i
  · subst e; rw [made_same]; show (1 : Int) ≤ 1000000; omega
  · rw [made_other _ _ e]
    have h1 := hc k hk
    have h2 : K.kids.count ((k : Int) + 1) ≤ K.kids.length := List.count_le_length
    have h3 : K.kids.length ≤ 4 := hF.few
    show (B k).refs + _ ≤ _
    omega

/-- what is made and let go was never there -/
theorem back_make {n : Nat} {B C : Nat → Blk} {K : Blk} {i : Nat} (hR : Right n B) (hF : Form n B { K with refs := 1 }) (hi : i < n) (h0 : (B i).refs = 0) (hC : Right n C) (hD : Fell n (made B K i) C [(i : Int) + 1]) : ∀ k, k < n → C k = B k := by
  refine same_of hC hR (fun k hk => ?_) fun k hk => ?_
  · rcases fell_like hD k hk with h | h | ⟨h1, h2, h3⟩
    · exact .inl h
    · by_cases e : k = i
      · subst e; exact .inr (.inl h0)
      · rw [made_other _ _ e] at h
        have h1 := (hR.one k hk).bounds
        have h2 : (B k).refs + (K.kids.count ((k : Int) + 1) : Int) = 0 := h
        exact .inr (.inl (by omega))
    · by_cases e : k = i
      · subst e; exact .inr (.inl h0)
      · rw [made_other _ _ e] at h1 h2 h3
        exact .inr (.inr ⟨h1, h2, h3⟩)
  · rw [hD.outs k hk, outs_made hR hF hi h0 k hk]
    by_cases e : k = i
    · subst e
      rw [if_pos rfl, outs_free hR hk h0, List.count_cons_self]
      simp
    · rw [if_neg e, List.count_cons_of_ne (by omega)]
      simp

theorem sumTo_one' {f g : Nat → Nat} {i : Nat} : ∀ {n : Nat}, i < n → (∀ j, j < n → j ≠ i → f j = g j) → sumTo f n + g i = sumTo g n + f i
  | n + 1, hi, h => by
    simp only [sumTo]
    by_cases e : i = n
    · subst e
      rw [sumTo_congr (f := f) (g := g) (fun j hj => h j (by omega) (by omega))]; omega
    · have := sumTo_one' (f := f) (g := g) (n := n) (i := i) (by omega) (fun j hj => h j (by omega))
      rw [h n (by omega) (by omega)]; omega

theorem used_made {n : Nat} {B : Nat → Blk} {K : Blk} {i : Nat} (hR : Right n B) (hF : Form n B { K with refs := 1 }) (hi : i < n) (h0 : (B i).refs = 0) : usedTo (made B K i) n = usedTo B n + 1 := by
  have := sumTo_one' (f := fun k => if 0 < (made B K i k).refs then 1 else 0) (g := fun k => if 0 < (B k).refs then 1 else 0) (i := i) hi (fun j hj hne => by
    rw [made_other _ _ hne]
    show (if 0 < (B j).refs + (K.kids.count ((j : Int) + 1) : Int) then 1 else 0) = _
    have hb := (hR.one j hj).bounds
    by_cases e : (B j).refs = 0
    · rw [kid_free hF e, e]; simp
    · rw [if_pos (by omega), if_pos (by omega)])
  have e1 : (made B K i i).refs = 1 := by rw [made_same]
  simp only [e1, h0] at this
  unfold usedTo
  simpa using this

theorem kept_same {B : Nat → Blk} {i : Nat} : keptB B ((i : Int) + 1) i = { B i with refs := (B i).refs + 1 } := by
  unfold keptB
  rw [show ((i : Int) + 1 - 1).toNat = i by omega, upd_same]
theorem kept_other {B : Nat → Blk} {i k : Nat} (h : k ≠ i) : keptB B ((i : Int) + 1) k = B k := by
  unfold keptB
  rw [show ((i : Int) + 1 - 1).toNat = i by omega, upd_other _ _ _ _ h]
theorem among_kept {n : Nat} {B : Nat → Blk} {i : Nat} (x : Int) : among n (keptB B ((i : Int) + 1)) x = among n B x := among_congr x fun k _ => by
  by_cases e : k = i
  · subst e; rw [kept_same]
  · rw [kept_other e]
theorem outs_kept {n : Nat} {B : Nat → Blk} {i : Nat} (k : Nat) : outs n (keptB B ((i : Int) + 1)) k = if k = i then outs n B k + 1 else outs n B k := by
  unfold outs
  rw [among_kept]
  by_cases e : k = i
  · subst e; rw [kept_same, if_pos rfl]; show (B k).refs + 1 - _ = _; omega
  · rw [kept_other e, if_neg e]
theorem right_kept {n : Nat} {B : Nat → Blk} {i : Nat} (hR : Right n B) (hi : i < n) (h0 : (B i).refs ≠ 0) (hm : (B i).refs ≤ 999000) : Right n (keptB B ((i : Int) + 1)) := by
  have hth : ∀ x, There n B x → There n (keptB B ((i : Int) + 1)) x ∧ (keptB B ((i : Int) + 1) (x - 1).toNat).level = (B (x - 1).toNat).level := by
    intro x ⟨x1, x2, x3⟩
    by_cases e : (x - 1).toNat = i
    · have hb := (hR.one i hi).bounds
      rw [e, kept_same]
      refine ⟨⟨x1, x2, ?_⟩, rfl⟩
      rw [e, kept_same]
      show (B i).refs + 1 ≠ 0
      omega
    · rw [kept_other e]
      exact ⟨⟨x1, x2, by rw [kept_other e]; exact x3⟩, rfl⟩
  refine ⟨hR.small, fun k hk => ?_, fun k hk => ?_, by simp⟩
  · by_cases e : k = i
    · subst e
      rw [kept_same]
      have hb := (hR.one k hk).bounds
      exact (hR.one k hk).turn rfl rfl rfl (.inr ⟨h0, by show 1 ≤ (B k).refs + 1; omega, by show (B k).refs + 1 ≤ 1000000; omega⟩) fun x _ => hth x
    · rw [kept_other e]
      exact (hR.one k hk).turn rfl rfl rfl (.inl rfl) fun x _ => hth x
  · rw [among_kept]
    have h1 := hR.held k hk
    simp at h1 ⊢
    by_cases e : k = i
    · subst e; rw [kept_same]; show _ ≤ (B k).refs + 1; omega
    · rw [kept_other e]; exact h1
/-- what is held and let go was never held -/
theorem back_keep {n : Nat} {B C : Nat → Blk} {i : Nat} (hR : Right n B) (hi : i < n) (h0 : (B i).refs ≠ 0) (hC : Right n C) (hD : Fell n (keptB B ((i : Int) + 1)) C [(i : Int) + 1]) : ∀ k, k < n → C k = B k := by
  refine same_of hC hR (fun k hk => ?_) fun k hk => ?_
  · rcases fell_like hD k hk with h | h | ⟨h1, h2, h3⟩
    · exact .inl h
    · by_cases e : k = i
      · subst e
        rw [kept_same] at h
        have hb := (hR.one k hk).bounds
        have h2 : (B k).refs + 1 = 0 := h
        omega
      · rw [kept_other e] at h; exact .inr (.inl h)
    · by_cases e : k = i
      · subst e; rw [kept_same] at h1 h2 h3; exact .inr (.inr ⟨h1, h2, h3⟩)
      · rw [kept_other e] at h1 h2 h3; exact .inr (.inr ⟨h1, h2, h3⟩)
  · rw [hD.outs k hk, outs_kept]
    by_cases e : k = i
    · subst e; rw [if_pos rfl, List.count_cons_self]; simp
    · rw [if_neg e, List.count_cons_of_ne (by omega)]; simp
theorem drop_kept {n : Nat} {B : Nat → Blk} {i : Nat} (hR : Right n B) (hi : i < n) (h0 : (B i).refs ≠ 0) (hm : (B i).refs ≤ 999000) : Droppable n (keptB B ((i : Int) + 1)) ((i : Int) + 1) := by
  refine droppable_of (right_kept hR hi h0 hm) hi ?_
  rw [outs_kept, if_pos rfl]
  have := hR.held i hi
  simp at this
  unfold outs
  omega

/-- behind a Drop what is still held from outside is there, and all that is below -/
theorem roots_behind {n : Nat} {B C : Nat → Blk} {a : Int} {l : List Int} (hC : Right n C) (hD : Fell n B C [a]) (hl : ∀ x ∈ l, ∃ k, k < n ∧ x = (k : Int) + 1 ∧ 0 < outs n B k - (([a] : List Int).count ((k : Int) + 1) : Int)) : RootsOk n C l := by
  intro r hr
  obtain ⟨k, hk, rfl, h⟩ := hl r hr
  refine .inr ⟨by omega, by omega, ?_⟩
  rw [show ((k : Int) + 1 - 1).toNat = k by omega]
  have h1 := hD.outs k hk
  unfold outs at h1 h
  omega
theorem fell_content {n : Nat} {B C : Nat → Blk} {T : List Int} (hD : Fell n B C T) {x : Int} (hx : There n C x) : (C (x - 1).toNat).level = (B (x - 1).toNat).level ∧ (C (x - 1).toNat).kids = (B (x - 1).toNat).kids ∧ (C (x - 1).toNat).bytes = (B (x - 1).toNat).bytes := by
  rcases hD.same _ (ix hx.1 hx.2.1).1 with h | ⟨_, _, h⟩
  · exact absurd (by rw [h]; rfl) hx.2.2
  · exact h
theorem clo_behind {n : Nat} {B C : Nat → Blk} {T : List Int} {l : List Int} (hC : Right n C) (hD : Fell n B C T) (hl : RootsOk n C l) (x : Int) : (Clo B l x ↔ Clo C l x) := by
  constructor
  · intro h
    refine (h (fun y => There n C y ∧ Clo C l y) (fun r hr h0 => ⟨(hl r hr).resolve_left h0, Clo.root hr h0⟩) ?_).2
    rintro y ⟨hy, hc⟩ k hk h0
    rw [← (fell_content hD hy).2.1] at hk
    refine ⟨?_, hc.kid hk h0⟩
    rcases (hC.one _ (ix hy.1 hy.2.1).1).kids k hk with h | ⟨h, _⟩
    · exact absurd h h0
    · exact h
  · intro h
    refine (h (fun y => There n C y ∧ Clo B l y) (fun r hr h0 => ⟨(hl r hr).resolve_left h0, Clo.root hr h0⟩) ?_).2
    rintro y ⟨hy, hc⟩ k hk h0
    refine ⟨?_, hc.kid (by rw [← (fell_content hD hy).2.1]; exact hk) h0⟩
    rcases (hC.one _ (ix hy.1 hy.2.1).1).kids k hk with h | ⟨h, _⟩
    · exact absurd h h0
    · exact h
theorem rising_eq : ∀ {L M : List Int}, Rising L → Rising M → (∀ x, x ∈ L ↔ x ∈ M) → L = M
  | [], [], _, _, _ => rfl
  | [], y :: M, _, _, h => absurd ((h y).2 (by simp)) (by simp)
  | x :: L, [], _, _, h => absurd ((h x).1 (by simp)) (by simp)
  | x :: L, y :: M, hL, hM, h => by
    unfold Rising at hL hM
    rw [List.pairwise_cons] at hL hM
    have e : x = y := by
      have h1 := (h x).1 (by simp)
      have h2 := (h y).2 (by simp)
      rcases List.mem_cons.1 h1 with h1 | h1
      · exact h1
      · rcases List.mem_cons.1 h2 with h2 | h2
        · exact h2.symm
        · have := hM.1 x h1
          have := hL.1 y h2
          omega
    subst e
    rw [rising_eq (L := L) (M := M) hL.2 hM.2 (fun z => ?_)]
    constructor
    · intro hz
      rcases List.mem_cons.1 ((h z).1 (List.mem_cons_of_mem _ hz)) with h1 | h1
      · have := hL.1 z hz; omega
      · exact h1
    · intro hz
      rcases List.mem_cons.1 ((h z).2 (List.mem_cons_of_mem _ hz)) with h1 | h1
      · have := hM.1 z hz; omega
      · exact h1
end Go.Proofs.YtihkljfcplfldaaGreat

namespace Go.Proofs.YtihkljfcplfldaaGreat

/-- how many leaves stand below a block of that level -/
def pw : Nat → Nat
  | 0 => 1
  | l + 1 => 4 * pw l
theorem pw_pos : ∀ l, 0 < pw l
  | 0 => by simp [pw]
  | l + 1 => by have := pw_pos l; simp only [pw]; omega

def kidsL (B : Nat → Blk) (a : Int) : List Int := if a = 0 then [0, 0, 0, 0] else (B (a - 1).toNat).kids
def bytesL (B : Nat → Blk) (a : Int) : List Int := if a = 0 then [] else (B (a - 1).toNat).bytes
/-- the leaf at place i -/
def leafAt (B : Nat → Blk) : Nat → Int → Nat → List Int
  | 0, a, _ => bytesL B a
  | l + 1, a, i => leafAt B l ((kidsL B a).getD (i / pw l) 0) (i % pw l)

/-- a root of that level -/
def Root (n : Nat) (B : Nat → Blk) (l : Nat) (a : Int) : Prop := a = 0 ∨ (There n B a ∧ (B (a - 1).toNat).level = l)

theorem kidsL_zero (B : Nat → Blk) : kidsL B 0 = [0, 0, 0, 0] := by simp [kidsL]
theorem Root.len {n : Nat} {B : Nat → Blk} {l : Nat} {a : Int} (hR : Right n B) (h : Root n B (l + 1) a) : (kidsL B a).length = 4 := by
  rcases h with rfl | ⟨⟨h1, h2, h3⟩, h4⟩
  · simp [kidsL]
  · unfold kidsL
    rw [if_neg (by omega)]
    rcases hR.one _ (ix h1 h2).1 with ⟨h, _⟩ | ⟨_, ⟨h, _⟩ | ⟨_, h, _⟩⟩
    · exact absurd h h3
    · omega
    · exact h
theorem Root.kid {n : Nat} {B : Nat → Blk} {l : Nat} {a : Int} (hR : Right n B) (h : Root n B (l + 1) a) {x : Int} (hx : x ∈ kidsL B a) : Root n B l x := by
  rcases h with rfl | ⟨⟨h1, h2, h3⟩, h4⟩
  · simp [kidsL] at hx; exact .inl hx
  · unfold kidsL at hx
    rw [if_neg (by omega)] at hx
    rcases (hR.one _ (ix h1 h2).1).kids x hx with h | ⟨ht, hl⟩
    · exact .inl h
    · exact .inr ⟨ht, by rw [hl, h4]; omega⟩
theorem getD_mem {l : List Int} {j : Nat} (h : j < l.length) : l.getD j 0 ∈ l := by
  have e : l.getD j 0 = l[j] := by simp [List.getD, h]
  rw [e]
  exact List.getElem_mem h
theorem Root.kidAt {n : Nat} {B : Nat → Blk} {l : Nat} {a : Int} (hR : Right n B) (h : Root n B (l + 1) a) {j : Nat} (hj : j < 4) : Root n B l ((kidsL B a).getD j 0) :=
  h.kid hR (getD_mem (by rw [h.len hR]; exact hj))
theorem Root.leaf {n : Nat} {B : Nat → Blk} {a : Int} (hR : Right n B) (h : Root n B 0 a) : (bytesL B a).length = if a = 0 then 0 else 4 := by
  rcases h with rfl | ⟨⟨h1, h2, h3⟩, h4⟩
  · simp [bytesL]
  · unfold bytesL
    rw [if_neg (by omega), if_neg (by omega)]
    rcases hR.one _ (ix h1 h2).1 with ⟨h, _⟩ | ⟨_, ⟨_, _, h⟩ | ⟨h, _⟩⟩
    · exact absurd h h3
    · exact h
    · omega
theorem Root.level {n : Nat} {B : Nat → Blk} {l : Nat} {a : Int} (hR : Right n B) (h : Root n B l a) (h0 : a ≠ 0) : l ≤ 3 := by
  rcases h with h | ⟨⟨h1, h2, h3⟩, h4⟩
  · exact absurd h h0
  · have := (hR.one _ (ix h1 h2).1).bounds; omega

/-- C has all that B has -/
structure Ext (n : Nat) (B C : Nat → Blk) : Prop where
  keep : ∀ i, i < n → (B i).refs ≠ 0 → (C i).refs ≠ 0 ∧ (C i).level = (B i).level ∧ (C i).kids = (B i).kids ∧ (C i).bytes = (B i).bytes
theorem Ext.refl (n : Nat) (B : Nat → Blk) : Ext n B B := ⟨fun i _ h => ⟨h, rfl, rfl, rfl⟩⟩
theorem Ext.trans {n : Nat} {B C D : Nat → Blk} (h : Ext n B C) (k : Ext n C D) : Ext n B D := ⟨fun i hi h0 => by
  obtain ⟨a1, a2, a3, a4⟩ := h.keep i hi h0
  obtain ⟨b1, b2, b3, b4⟩ := k.keep i hi a1
  exact ⟨b1, by rw [b2, a2], by rw [b3, a3], by rw [b4, a4]⟩⟩
theorem Ext.there {n : Nat} {B C : Nat → Blk} (h : Ext n B C) {x : Int} (hx : There n B x) : There n C x ∧ (C (x - 1).toNat).level = (B (x - 1).toNat).level ∧ kidsL C x = kidsL B x ∧ bytesL C x = bytesL B x := by
  obtain ⟨h1, h2, h3⟩ := hx
  obtain ⟨a1, a2, a3, a4⟩ := h.keep _ (ix h1 h2).1 h3
  refine ⟨⟨h1, h2, a1⟩, a2, ?_, ?_⟩
  · unfold kidsL; rw [if_neg (by omega), if_neg (by omega), a3]
  · unfold bytesL; rw [if_neg (by omega), if_neg (by omega), a4]
theorem Ext.root {n : Nat} {B C : Nat → Blk} (h : Ext n B C) {l : Nat} {a : Int} (ha : Root n B l a) : Root n C l a ∧ kidsL C a = kidsL B a ∧ bytesL C a = bytesL B a := by
  rcases ha with rfl | ⟨ht, hl⟩
  · exact ⟨.inl rfl, by simp [kidsL], by simp [bytesL]⟩
  · obtain ⟨a1, a2, a3, a4⟩ := h.there ht
    exact ⟨.inr ⟨a1, by rw [a2, hl]⟩, a3, a4⟩
theorem Ext.leaf {n : Nat} {B C : Nat → Blk} (h : Ext n B C) (hR : Right n B) : ∀ (l : Nat) (a : Int), Root n B l a → ∀ i, i < pw l → leafAt C l a i = leafAt B l a i
  | 0, a, ha, i, _ => (h.root ha).2.2
  | l + 1, a, ha, i, hi => by
    have hp := pw_pos l
    have hd : i / pw l < 4 := by simp only [pw] at hi; exact Nat.div_lt_of_lt_mul (by rw [Nat.mul_comm]; exact hi)
    simp only [leafAt]
    rw [(h.root ha).2.1]
    exact Ext.leaf h hR l _ (ha.kidAt hR hd) _ (Nat.mod_lt _ hp)
theorem leafAt_zero (B : Nat → Blk) : ∀ (l i : Nat), i < pw l → leafAt B l 0 i = []
  | 0, i, _ => by simp [leafAt, bytesL]
  | l + 1, i, hi => by
    have hp := pw_pos l
    have hd : i / pw l < 4 := by simp only [pw] at hi; exact Nat.div_lt_of_lt_mul (by rw [Nat.mul_comm]; exact hi)
    simp only [leafAt, kidsL_zero]
    have e : ([0, 0, 0, 0] : List Int).getD (i / pw l) 0 = 0 := by
      generalize i / pw l = d at *
      match d, hd with
      | 0, _ => rfl
      | 1, _ => rfl
      | 2, _ => rfl
      | 3, _ => rfl
    rw [e]
    exact leafAt_zero B l _ (Nat.mod_lt _ hp)
/-- leaves have no bytes, or four; all are bytes -/
theorem leafAt_len {n : Nat} {B : Nat → Blk} (hR : Right n B) : ∀ (l : Nat) (a : Int), Root n B l a → ∀ i, i < pw l → (leafAt B l a i).length ≤ 4
  | 0, a, ha, i, _ => by
    simp only [leafAt]
    rw [ha.leaf hR]
    split <;> omega
  | l + 1, a, ha, i, hi => by
    have hp := pw_pos l
    have hd : i / pw l < 4 := by simp only [pw] at hi; exact Nat.div_lt_of_lt_mul (by rw [Nat.mul_comm]; exact hi)
    simp only [leafAt]
    exact leafAt_len hR l _ (ha.kidAt hR hd) _ (Nat.mod_lt _ hp)

/-- one holder less of the block at a, if there is one -/
def lessOne (B : Nat → Blk) (a : Int) : Nat → Blk := if a = 0 then B else upd B (a - 1).toNat { B (a - 1).toNat with refs := (B (a - 1).toNat).refs - 1 }

/-- K laid at the lowest free place j -/
def Lowest (n : Nat) (B : Nat → Blk) (j : Nat) : Prop := j < n ∧ (B j).refs = 0 ∧ ∀ k, k < j → (B k).refs ≠ 0

def leafB (b : List Int) : Blk := ⟨0, 0, [], b⟩
def nodeB (l : Nat) (ks : List Int) : Blk := ⟨0, l, ks, []⟩

/-- what putAbove makes of kids, one of which is new (or 0) -/
def Above (n : Nat) (B : Nat → Blk) (l : Nat) (ks : List Int) (new : Int) (C : Nat → Blk) (a : Int) : Prop :=
  (ks = [0, 0, 0, 0] ∧ C = B ∧ a = 0) ∨ (ks ≠ [0, 0, 0, 0] ∧ ∃ j : Nat, Lowest n B j ∧ Makeable n B (nodeB l ks) ∧ a = (j : Int) + 1 ∧ C = lessOne (made B (nodeB l ks) j) new)
def Leafed (n : Nat) (B : Nat → Blk) (b : List Int) (C : Nat → Blk) (a : Int) : Prop :=
  (b = [] ∧ C = B ∧ a = 0) ∨ (b ≠ [] ∧ ∃ j : Nat, Lowest n B j ∧ Makeable n B (leafB b) ∧ a = (j : Int) + 1 ∧ C = made B (leafB b) j)
/-- what put makes -/
def Puts (n : Nat) (b : List Int) : Nat → (Nat → Blk) → Int → Nat → (Nat → Blk) → Int → Prop
  | 0, B, _, _, C, a => Leafed n B b C a
  | l + 1, B, root, i, C, a => ∃ D k, Puts n b l B ((kidsL B root).getD (i / pw l) 0) (i % pw l) D k ∧ Above n D (l + 1) ((kidsL B root).set (i / pw l) k) k C a

theorem used_mono {B C : Nat → Blk} : ∀ {n : Nat}, (∀ k, k < n → (C k).refs ≤ (B k).refs) → usedTo C n ≤ usedTo B n
  | 0, _ => Nat.le_refl _
  | n + 1, h => by
    have h1 := used_mono (B := B) (C := C) (n := n) (fun k hk => h k (by omega))
    have h2 := h n (by omega)
    rw [usedTo_succ, usedTo_succ]
    by_cases e : 0 < (C n).refs
    · rw [if_pos e, if_pos (by omega)]; omega
    · rw [if_neg e]; omega
theorem used_full {n : Nat} {B : Nat → Blk} (hR : Right n B) (h : ¬ ∃ i, i < n ∧ (B i).refs = 0) : usedTo B n = n := by
  have key : ∀ m, m ≤ n → usedTo B m = m := by
    intro m
    induction m with
    | zero => intro _; rfl
    | succ m ih =>
      intro hm
      have hb := (hR.one m (by omega)).bounds
      have h0 : (B m).refs ≠ 0 := fun e => h ⟨m, by omega, e⟩
      rw [usedTo_succ, ih (by omega), if_pos (by omega)]
  exact key n (Nat.le_refl _)

/-- what a store has come to be, where the root a was made; nothing is held more often than c -/
structure Grew (n : Nat) (B C : Nat → Blk) (l : Nat) (a : Int) (c : Int) : Prop where
  right : Right n C
  ext : Ext n B C
  root : Root n C l a
  out : ∀ k, k < n → outs n C k = outs n B k + if (k : Int) + 1 = a then 1 else 0
  fresh : a ≠ 0 → (B (a - 1).toNat).refs = 0
  one : a ≠ 0 → (C (a - 1).toNat).refs = 1
  few : ∀ k, k < n → (C k).refs ≤ c
  used : usedTo C n ≤ usedTo B n + (l + 1)

theorem made_ext {n : Nat} {B : Nat → Blk} {K : Blk} {i : Nat} (hR : Right n B) (h0 : (B i).refs = 0) : Ext n B (made B K i) := ⟨fun k hk hk0 => by
  have e : k ≠ i := fun e => hk0 (by rw [e]; exact h0)
  have hb := (hR.one k hk).bounds
  rw [made_other _ _ e]
  exact ⟨by show (B k).refs + _ ≠ 0; omega, rfl, rfl, rfl⟩⟩
theorem made_le {n : Nat} {B : Nat → Blk} {K : Blk} {i : Nat} {c : Int} (h1 : 1 ≤ c) (hc : ∀ k, k < n → (B k).refs ≤ c) (hF : Form n B { K with refs := 1 }) : ∀ k, k < n → (made B K i k).refs ≤ c + 4 := by
  intro k hk
  have := hc k hk
  by_cases e : k = i
  · subst e; rw [made_same]; show (1 : Int) ≤ c + 4; omega
  · rw [made_other _ _ e]
    have h2 : K.kids.count ((k : Int) + 1) ≤ K.kids.length := List.count_le_length
    have h3 : K.kids.length ≤ 4 := hF.few
    show (B k).refs + _ ≤ _
    omega

/-- what is held by somebody outside is held once less -/
theorem less_right {n : Nat} {B : Nat → Blk} (hR : Right n B) {j : Nat} (hj : j < n) (h1 : 1 < (B j).refs) (h2 : 0 < outs n B j) :
    Right n (lessOne B ((j : Int) + 1)) ∧ (∀ k, k < n → outs n (lessOne B ((j : Int) + 1)) k = outs n B k - if k = j then 1 else 0) ∧ Ext n B (lessOne B ((j : Int) + 1)) ∧ (∀ k, k ≠ j → lessOne B ((j : Int) + 1) k = B k) ∧ (∀ k, (lessOne B ((j : Int) + 1) k).refs ≤ (B k).refs) := by
  have e0 : ((j : Int) + 1 - 1).toNat = j := by omega
  have e1 : lessOne B ((j : Int) + 1) = upd B j { B j with refs := (B j).refs - 1 } := by
    unfold lessOne; rw [if_neg (by omega), e0]
  rw [e1]
  have hT : RightT n B [(j : Int) + 1] := right_held hR (by omega) (by omega) (by rw [e0]; unfold outs at h2; omega)
  have hr := step_more hT (by omega) (by omega) (by rw [e0]; exact h1)
  rw [e0] at hr
  have ham : ∀ x, among n (upd B j { B j with refs := (B j).refs - 1 }) x = among n B x := fun x => among_congr x fun i hi => by
    by_cases e : i = j
    · subst e; rw [upd_same]
    · rw [upd_other _ _ _ _ e]
  refine ⟨hr, fun k hk => ?_, ⟨fun k hk h0 => ?_⟩, fun k hk => upd_other _ _ _ _ hk, fun k => ?_⟩
  · unfold outs
    rw [ham]
    by_cases e : k = j
    · subst e; rw [upd_same, if_pos rfl]; show (B k).refs - 1 - _ = _; omega
    · rw [upd_other _ _ _ _ e, if_neg e]; omega
  · by_cases e : k = j
    · subst e; rw [upd_same]; exact ⟨by show (B k).refs - 1 ≠ 0; omega, rfl, rfl, rfl⟩
    · rw [upd_other _ _ _ _ e]; exact ⟨h0, rfl, rfl, rfl⟩
  · by_cases e : k = j
    · subst e; rw [upd_same]; show (B k).refs - 1 ≤ _; omega
    · rw [upd_other _ _ _ _ e]; omega

theorem leafed_grew {n : Nat} {B C : Nat → Blk} {b : List Int} {a c : Int} (hR : Right n B) (h1 : 1 ≤ c) (hcm : c + 4 ≤ 1000000) (hc : ∀ k, k < n → (B k).refs ≤ c) (h : Leafed n B b C a) : Grew n B C 0 a (c + 4) ∧ bytesL C a = b := by
  rcases h with ⟨rfl, rfl, rfl⟩ | ⟨hb, j, ⟨hj, h0, hmin⟩, ⟨_, hF, _⟩, rfl, rfl⟩
  · exact ⟨⟨hR, Ext.refl _ _, .inl rfl, fun k hk => by rw [if_neg (by omega)]; omega, fun h => absurd rfl h, fun h => absurd rfl h, fun k hk => by have := hc k hk; omega, by omega⟩, by simp [bytesL]⟩
  · have e0 : ((j : Int) + 1 - 1).toNat = j := by omega
    have hle := made_le (i := j) h1 hc hF
    refine ⟨⟨right_made hR hF hj h0 (fun k hk => by have := hle k hk; omega), made_ext hR h0, .inr ⟨⟨by omega, by omega, ?_⟩, ?_⟩, fun k hk => ?_, fun _ => by rw [e0]; exact h0, fun _ => by rw [e0, made_same], hle, by rw [used_made hR hF hj h0]; omega⟩, ?_⟩
    · rw [e0, made_same]; show (1 : Int) ≠ 0; omega
    · rw [e0, made_same]; rfl
    · rw [outs_made hR hF hj h0 k hk]
      by_cases e : k = j
      · subst e; rw [if_pos rfl, if_pos rfl, outs_free hR hk h0]; rfl
      · rw [if_neg e, if_neg (by omega)]; omega
    · unfold bytesL; rw [if_neg (by omega), e0, made_same]; rfl

theorem above_grew {n : Nat} {B D C : Nat → Blk} {l : Nat} {ks : List Int} {new a c : Int} (hB : Right n B) (hg : Grew n B D l new c) (h1 : 1 ≤ c) (hcm : c + 4 ≤ 1000000) (hin : new ≠ 0 → new ∈ ks) (h : Above n D (l + 1) ks new C a) : Grew n B C (l + 1) a (c + 4) ∧ kidsL C a = ks ∧ Ext n D C := by
  have hR := hg.right
  rcases h with ⟨rfl, rfl, rfl⟩ | ⟨hne, j, ⟨hj, h0, hmin⟩, ⟨_, hF, _⟩, rfl, rfl⟩
  · have hn0 : new = 0 := by
      by_cases e : new = 0
      · exact e
      · have := hin e
        simp at this; exact this
    subst hn0
    exact ⟨⟨hg.right, hg.ext, .inl rfl, hg.out, fun h => absurd rfl h, fun h => absurd rfl h, fun k hk => by have := hg.few k hk; omega, by have := hg.used; omega⟩, by simp [kidsL], Ext.refl _ _⟩
  · have e0 : ((j : Int) + 1 - 1).toNat = j := by omega
    have hle := made_le (i := j) h1 hg.few hF
    have hM := right_made hR hF hj h0 (fun k hk => by have := hle k hk; omega)
    have hE := made_ext (K := nodeB (l + 1) ks) hR h0
    have hom := outs_made hR hF hj h0
    have hBj : (B j).refs = 0 := by
      by_cases e : (B j).refs = 0
      · exact e
      · exact absurd h0 (hg.ext.keep j hj e).1
    have hs : made D (nodeB (l + 1) ks) j j = { nodeB (l + 1) ks with refs := 1 } := made_same _ _ _
    have hum := used_made hR hF hj h0
    by_cases hn0 : new = 0
    · subst hn0
      have e1 : lessOne (made D (nodeB (l + 1) ks) j) 0 = made D (nodeB (l + 1) ks) j := by simp [lessOne]
      rw [e1]
      refine ⟨⟨hM, hg.ext.trans hE, .inr ⟨⟨by omega, by omega, ?_⟩, ?_⟩, fun k hk => ?_, fun _ => by rw [e0]; exact hBj, fun _ => by rw [e0, hs], hle, by have := hg.used; omega⟩, ?_, hE⟩
      · rw [e0, hs]; show (1 : Int) ≠ 0; omega
      · rw [e0, hs]; rfl
      · rw [hom k hk]
        have := hg.out k hk
        rw [if_neg (by omega)] at this
        by_cases e : k = j
        · subst e; rw [if_pos rfl, if_pos rfl]; have := outs_free hR hk h0; omega
        · rw [if_neg e, if_neg (by omega)]; exact this
      · unfold kidsL; rw [if_neg (by omega), e0, hs]; rfl
    · rcases hg.root with h | ⟨⟨n1, n2, n3⟩, _⟩
      · exact absurd h hn0
      obtain ⟨m, rfl⟩ : ∃ m : Nat, new = (m : Int) + 1 := ⟨(new - 1).toNat, by omega⟩
      have em : ((m : Int) + 1 - 1).toNat = m := by omega
      have hm : m < n := by omega
      have hm1 := hg.one hn0
      rw [em] at hm1
      have hmj : m ≠ j := fun e => by rw [e, h0] at hm1; omega
      have hcnt : 0 < (nodeB (l + 1) ks).kids.count ((m : Int) + 1) := List.count_pos_iff.2 (hin hn0)
      have hmr : 1 < (made D (nodeB (l + 1) ks) j m).refs := by
        rw [made_other _ _ hmj]; show 1 < (D m).refs + _; omega
      have hmo : outs n (made D (nodeB (l + 1) ks) j) m = outs n B m + 1 := by
        rw [hom m hm, if_neg hmj, hg.out m hm, if_pos rfl]
      have hBm := hg.fresh hn0
      rw [em] at hBm
      have hB0 := outs_free hB hm hBm
      obtain ⟨q1, q2, q3, q4, q5⟩ := less_right hM hm hmr (by omega)
      have hjs : lessOne (made D (nodeB (l + 1) ks) j) ((m : Int) + 1) j = { nodeB (l + 1) ks with refs := 1 } := by rw [q4 j (Ne.symm hmj), hs]
      refine ⟨⟨q1, (hg.ext.trans hE).trans q3, .inr ⟨⟨by omega, by omega, ?_⟩, ?_⟩, fun k hk => ?_, fun _ => by rw [e0]; exact hBj, fun _ => by rw [e0, hjs], fun k hk => Int.le_trans (q5 k) (hle k hk), by have := hg.used; have := used_mono (n := n) (fun k _ => q5 k); omega⟩, ?_, hE.trans q3⟩
      · rw [e0, hjs]; show (1 : Int) ≠ 0; omega
      · rw [e0, hjs]; rfl
      · rw [q2 k hk, hom k hk]
        have h3 := hg.out k hk
        by_cases e : k = j
        · subst e
          rw [if_pos rfl, if_neg (Ne.symm hmj), if_pos rfl]
          rw [if_neg (by omega)] at h3
          have := outs_free hR hk h0; omega
        · by_cases e' : k = m
          · subst e'
            rw [if_neg e, if_pos rfl, if_neg (by omega)]
            rw [if_pos rfl] at h3
            omega
          · rw [if_neg e, if_neg e', if_neg (by omega)]
            rw [if_neg (by omega)] at h3
            omega
      · unfold kidsL; rw [if_neg (by omega), e0, hjs]; rfl
end Go.Proofs.YtihkljfcplfldaaGreat
