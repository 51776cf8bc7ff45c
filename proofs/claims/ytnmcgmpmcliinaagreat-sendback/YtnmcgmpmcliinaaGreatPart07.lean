/-
  Tree1, Tree2, Tree3 in one text. Nothing here is trusted.
-/
import Derived.Test.YtnmcgmpmcliinaaGreatPart06
import Derived.Laws.IdiomCopy
import Derived.Laws.CopyOwn
set_option linter.unusedVariables false
namespace Go.Proofs.YtnmcgmpmcliinaaGreat

/-- how many leaves stand below a block of that level -/
def pw : Nat → Nat
  | 0 => 1
  | l + 1 => 4 * pw l
theorem pw_pos : ∀ l, 0 < pw l
  | 0 => by simp [pw]
  | l + 1 => by have := pw_pos l; simp only [pw]; omega

def kidsL (B : Nat → Blk) (a : Int) : List Int := if a = 0 then [0, 0, 0, 0] else (B (a - 1).toNat).kids
def bytesL (B : Nat → Blk) (a : Int) : List Int := if a = 0 then [] else (B (a - 1).toNat).bytes
/-- the leaf at place i -/
def leafAt (B : Nat → Blk) : Nat → Int → Nat → List Int
  | 0, a, _ => bytesL B a
  | l + 1, a, i => leafAt B l ((kidsL B a).getD (i / pw l) 0) (i % pw l)

/-- a root of that level -/
def Root (n : Nat) (B : Nat → Blk) (l : Nat) (a : Int) : Prop := a = 0 ∨ (There n B a ∧ (B (a - 1).toNat).level = l)

theorem kidsL_zero (B : Nat → Blk) : kidsL B 0 = [0, 0, 0, 0] := by simp [kidsL]
theorem Root.len {n : Nat} {B : Nat → Blk} {l : Nat} {a : Int} (hR : Right n B) (h : Root n B (l + 1) a) : (kidsL B a).length = 4 := by
  rcases h with rfl | ⟨⟨h1, h2, h3⟩, h4⟩
  · simp [kidsL]
  · unfold kidsL
    rw [if_neg (by omega)]
    rcases hR.one _ (ix h1 h2).1 with ⟨h, _⟩ | ⟨_, ⟨h, _⟩ | ⟨_, h, _⟩⟩
    · exact absurd h h3
    · omega
    · exact h
theorem Root.kid {n : Nat} {B : Nat → Blk} {l : Nat} {a : Int} (hR : Right n B) (h : Root n B (l + 1) a) {x : Int} (hx : x ∈ kidsL B a) : Root n B l x := by
  rcases h with rfl | ⟨⟨h1, h2, h3⟩, h4⟩
  · simp [kidsL] at hx; exact .inl hx
  · unfold kidsL at hx
    rw [if_neg (by omega)] at hx
    rcases (hR.one _ (ix h1 h2).1).kids x hx with h | ⟨ht, hl⟩
    · exact .inl h
    · exact .inr ⟨ht, by rw [hl, h4]; omega⟩
theorem getD_mem {l : List Int} {j : Nat} (h : j < l.length) : l.getD j 0 ∈ l := by
  have e : l.getD j 0 = l[j] := by simp [List.getD, h]
  rw [e]
  exact List.getElem_mem h
theorem Root.kidAt {n : Nat} {B : Nat → Blk} {l : Nat} {a : Int} (hR : Right n B) (h : Root n B (l + 1) a) {j : Nat} (hj : j < 4) : Root n B l ((kidsL B a).getD j 0) :=
  h.kid hR (getD_mem (by rw [h.len hR]; exact hj))
theorem Root.leaf {n : Nat} {B : Nat → Blk} {a : Int} (hR : Right n B) (h : Root n B 0 a) : (bytesL B a).length = if a = 0 then 0 else 4 := by
  rcases h with rfl | ⟨⟨h1, h2, h3⟩, h4⟩
  · simp [bytesL]
  · unfold bytesL
    rw [if_neg (by omega), if_neg (by omega)]
    rcases hR.one _ (ix h1 h2).1 with ⟨h, _⟩ | ⟨_, ⟨_, _, h⟩ | ⟨h, _⟩⟩
    · exact absurd h h3
    · exact h
    · omega
theorem Root.level {n : Nat} {B : Nat → Blk} {l : Nat} {a : Int} (hR : Right n B) (h : Root n B l a) (h0 : a ≠ 0) : l ≤ 3 := by
  rcases h with h | ⟨⟨h1, h2, h3⟩, h4⟩
  · exact absurd h h0
  · have := (hR.one _ (ix h1 h2).1).bounds; omega

/-- C has all that B has -/
structure Ext (n : Nat) (B C : Nat → Blk) : Prop where
  keep : ∀ i, i < n → (B i).refs ≠ 0 → (C i).refs ≠ 0 ∧ (C i).level = (B i).level ∧ (C i).kids = (B i).kids ∧ (C i).bytes = (B i).bytes
theorem Ext.refl (n : Nat) (B : Nat → Blk) : Ext n B B := ⟨fun i _ h => ⟨h, rfl, rfl, rfl⟩⟩
theorem Ext.trans {n : Nat} {B C D : Nat → Blk} (h : Ext n B C) (k : Ext n C D) : Ext n B D := ⟨fun i hi h0 => by
  obtain ⟨a1, a2, a3, a4⟩ := h.keep i hi h0
  obtain ⟨b1, b2, b3, b4⟩ := k.keep i hi a1
  exact ⟨b1, by rw [b2, a2], by rw [b3, a3], by rw [b4, a4]⟩⟩
theorem Ext.there {n : Nat} {B C : Nat → Blk} (h : Ext n B C) {x : Int} (hx : There n B x) : There n C x ∧ (C (x - 1).toNat).level = (B (x - 1).toNat).level ∧ kidsL C x = kidsL B x ∧ bytesL C x = bytesL B x := by
  obtain ⟨h1, h2, h3⟩ := hx
  obtain ⟨a1, a2, a3, a4⟩ := h.keep _ (ix h1 h2).1 h3
  refine ⟨⟨h1, h2, a1⟩, a2, ?_, ?_⟩
  · unfold kidsL; rw [if_neg (by omega), if_neg (by omega), a3]
  · unfold bytesL; rw [if_neg (by omega), if_neg (by omega), a4]
theorem Ext.root {n : Nat} {B C : Nat → Blk} (h : Ext n B C) {l : Nat} {a : Int} (ha : Root n B l a) : Root n C l a ∧ kidsL C a = kidsL B a ∧ bytesL C a = bytesL B a := by
  rcases ha with rfl | ⟨ht, hl⟩
  · exact ⟨.inl rfl, by simp [kidsL], by simp [bytesL]⟩
  · obtain ⟨a1, a2, a3, a4⟩ := h.there ht
    exact ⟨.inr ⟨a1, by rw [a2, hl]⟩, a3, a4⟩
theorem Ext.leaf {n : Nat} {B C : Nat → Blk} (h : Ext n B C) (hR : Right n B) : ∀ (l : Nat) (a : Int), Root n B l a → ∀ i, i < pw l → leafAt C l a i = leafAt B l a i
  | 0, a, ha, i, _ => (h.root ha).2.2
  | l + 1, a, ha, i, hi => by
    have hp := pw_pos l
    have hd : i / pw l < 4 := by simp only [pw] at hi; exact Nat.div_lt_of_lt_mul (by rw [Nat.mul_comm]; exact hi)
    simp only [leafAt]
    rw [(h.root ha).2.1]
    exact Ext.leaf h hR l _ (ha.kidAt hR hd) _ (Nat.mod_lt _ hp)
theorem leafAt_zero (B : Nat → Blk) : ∀ (l i : Nat), i < pw l → leafAt B l 0 i = []
  | 0, i, _ => by simp [leafAt, bytesL]
  | l + 1, i, hi => by
    have hp := pw_pos l
    have hd : i / pw l < 4 := by simp only [pw] at hi; exact Nat.div_lt_of_lt_mul (by rw [Nat.mul_comm]; exact hi)
    simp only [leafAt, kidsL_zero]
    have e : ([0, 0, 0, 0] : List Int).getD (i / pw l) 0 = 0 := by
      generalize i / pw l = d at *
      match d, hd with
      | 0, _ => rfl
      | 1, _ => rfl
      | 2, _ => rfl
      | 3, _ => rfl
    rw [e]
    exact leafAt_zero B l _ (Nat.mod_lt _ hp)
/-- leaves have no bytes, or four; all are bytes -/
theorem leafAt_len {n : Nat} {B : Nat → Blk} (hR : Right n B) : ∀ (l : Nat) (a : Int), Root n B l a → ∀ i, i < pw l → (leafAt B l a i).length ≤ 4
  | 0, a, ha, i, _ => by
    simp only [leafAt]
    rw [ha.leaf hR]
    split <;> omega
  | l + 1, a, ha, i, hi => by
    have hp := pw_pos l
    have hd : i / pw l < 4 := by simp only [pw] at hi; exact Nat.div_lt_of_lt_mul (by rw [Nat.mul_comm]; exact hi)
    simp only [leafAt]
    exact leafAt_len hR l _ (ha.kidAt hR hd) _ (Nat.mod_lt _ hp)

/-- one holder less of the block at a, if there is one -/
def lessOne (B : Nat → Blk) (a : Int) : Nat → Blk := if a = 0 then B else upd B (a - 1).toNat { B (a - 1).toNat with refs := (B (a - 1).toNat).refs - 1 }

/-- K laid at the lowest free place j -/
def Lowest (n : Nat) (B : Nat → Blk) (j : Nat) : Prop := j < n ∧ (B j).refs = 0 ∧ ∀ k, k < j → (B k).refs ≠ 0

def leafB (b : List Int) : Blk := ⟨0, 0, [], b⟩
def nodeB (l : Nat) (ks : List Int) : Blk := ⟨0, l, ks, []⟩

/-- what putAbove makes of kids, one of which is new (or 0) -/
def Above (n : Nat) (B : Nat → Blk) (l : Nat) (ks : List Int) (new : Int) (C : Nat → Blk) (a : Int) : Prop :=
  (ks = [0, 0, 0, 0] ∧ C = B ∧ a = 0) ∨ (ks ≠ [0, 0, 0, 0] ∧ ∃ j : Nat, Lowest n B j ∧ Makeable n B (nodeB l ks) ∧ a = (j : Int) + 1 ∧ C = lessOne (made B (nodeB l ks) j) new)
def Leafed (n : Nat) (B : Nat → Blk) (b : List Int) (C : Nat → Blk) (a : Int) : Prop :=
  (b = [] ∧ C = B ∧ a = 0) ∨ (b ≠ [] ∧ ∃ j : Nat, Lowest n B j ∧ Makeable n B (leafB b) ∧ a = (j : Int) + 1 ∧ C = made B (leafB b) j)
/-- what put makes -/
def Puts (n : Nat) (b : List Int) : Nat → (Nat → Blk) → Int → Nat → (Nat → Blk) → Int → Prop
  | 0, B, _, _, C, a => Leafed n B b C a
  | l + 1, B, root, i, C, a => ∃ D k, Puts n b l B ((kidsL B root).getD (i / pw l) 0) (i % pw l) D k ∧ Above n D (l + 1) ((kidsL B root).set (i / pw l) k) k C a

theorem used_mono {B C : Nat → Blk} : ∀ {n : Nat}, (∀ k, k < n → (C k).refs ≤ (B k).refs) → usedTo C n ≤ usedTo B n
  | 0, _ => Nat.le_refl _
  | n + 1, h => by
    have h1 := used_mono (B := B) (C := C) (n := n) (fun k hk => h k (by omega))
    have h2 := h n (by omega)
    rw [usedTo_succ, usedTo_succ]
    by_cases e : 0 < (C n).refs
    · rw [if_pos e, if_pos (by omega)]; omega
    · rw [if_neg e]; omega
theorem used_full {n : Nat} {B : Nat → Blk} (hR : Right n B) (h : ¬ ∃ i, i < n ∧ (B i).refs = 0) : usedTo B n = n := by
  have key : ∀ m, m ≤ n → usedTo B m = m := by
    intro m
    induction m with
    | zero => intro _; rfl
    | succ m ih =>
      intro hm
      have hb := (hR.one m (by omega)).bounds
      have h0 : (B m).refs ≠ 0 := fun e => h ⟨m, by omega, e⟩
      rw [usedTo_succ, ih (by omega), if_pos (by omega)]
  exact key n (Nat.le_refl _)

/-- what a store has come to be, where the root a was made; nothing is held more often than c -/
structure Grew (n : Nat) (B C : Nat → Blk) (l : Nat) (a : Int) (c : Int) : Prop where
  right : Right n C
  ext : Ext n B C
  root : Root n C l a
  out : ∀ k, k < n → outs n C k = outs n B k + if (k : Int) + 1 = a then 1 else 0
  fresh : a ≠ 0 → (B (a - 1).toNat).refs = 0
  one : a ≠ 0 → (C (a - 1).toNat).refs = 1
  few : ∀ k, k < n → (C k).refs ≤ c
  used : usedTo C n ≤ usedTo B n + (l + 1)

theorem made_ext {n : Nat} {B : Nat → Blk} {K : Blk} {i : Nat} (hR : Right n B) (h0 : (B i).refs = 0) : Ext n B (made B K i) := ⟨fun k hk hk0 => by
  have e : k ≠ i := fun e => hk0 (by rw [e]; exact h0)
  have hb := (hR.one k hk).bounds
  rw [made_other _ _ e]
  exact ⟨by show (B k).refs + _ ≠ 0; omega, rfl, rfl, rfl⟩⟩
theorem made_le {n : Nat} {B : Nat → Blk} {K : Blk} {i : Nat} {c : Int} (h1 : 1 ≤ c) (hc : ∀ k, k < n → (B k).refs ≤ c) (hF : Form n B { K with refs := 1 }) : ∀ k, k < n → (made B K i k).refs ≤ c + 4 := by
  intro k hk
  have := hc k hk
  by_cases e : k = i
  · subst e; rw [made_same]; show (1 : Int) ≤ c + 4; omega
  · rw [made_other _ _ e]
    have h2 : K.kids.count ((k : Int) + 1) ≤ K.kids.length := List.count_le_length
    have h3 : K.kids.length ≤ 4 := hF.few
    show (B k).refs + _ ≤ _
    omega

/-- what is held by somebody outside is held once less -/
theorem less_right {n : Nat} {B : Nat → Blk} (hR : Right n B) {j : Nat} (hj : j < n) (h1 : 1 < (B j).refs) (h2 : 0 < outs n B j) :
    Right n (lessOne B ((j : Int) + 1)) ∧ (∀ k, k < n → outs n (lessOne B ((j : Int) + 1)) k = outs n B k - if k = j then 1 else 0) ∧ Ext n B (lessOne B ((j : Int) + 1)) ∧ (∀ k, k ≠ j → lessOne B ((j : Int) + 1) k = B k) ∧ (∀ k, (lessOne B ((j : Int) + 1) k).refs ≤ (B k).refs) := by
  have e0 : ((j : Int) + 1 - 1).toNat = j := by omega
  have e1 : lessOne B ((j : Int) + 1) = upd B j { B j with refs := (B j).refs - 1 } := by
    unfold lessOne; rw [if_neg (by omega), e0]
  rw [e1]
  have hT : RightT n B [(j : Int) + 1] := right_held hR (by omega) (by omega) (by rw [e0]; unfold outs at h2; omega)
  have hr := step_more hT (by omega) (by omega) (by rw [e0]; exact h1)
  rw [e0] at hr
  have ham : ∀ x, among n (upd B j { B j with refs := (B j).refs - 1 }) x = among n B x := fun x => among_congr x fun i hi => by
    by_cases e : i = j
    · subst e; rw [upd_same]
    · rw [upd_other _ _ _ _ e]
  refine ⟨hr, fun k hk => ?_, ⟨fun k hk h0 => ?_⟩, fun k hk => upd_other _ _ _ _ hk, fun k => ?_⟩
  · unfold outs
    rw [ham]
    by_cases e : k = j
    · subst e; rw [upd_same, if_pos rfl]; show (B k).refs - 1 - _ = _; omega
    · rw [upd_other _ _ _ _ e, if_neg e]; omega
  · by_cases e : k = j
    · subst e; rw [upd_same]; exact ⟨by show (B k).refs - 1 ≠ 0; omega, rfl, rfl, rfl⟩
    · rw [upd_other _ _ _ _ e]; exact ⟨h0, rfl, rfl, rfl⟩
  · by_cases e : k = j
    · subst e; rw [upd_same]; show (B k).refs - 1 ≤ _; omega
    · rw [upd_other _ _ _ _ e]; omega

theorem leafed_grew {n : Nat} {B C : Nat → Blk} {b : List Int} {a c : Int} (hR : Right n B) (h1 : 1 ≤ c) (hcm : c + 4 ≤ 1000000) (hc : ∀ k, k < n → (B k).refs ≤ c) (h : Leafed n B b C a) : Grew n B C 0 a (c + 4) ∧ bytesL C a = b := by
  rcases h with ⟨rfl, rfl, rfl⟩ | ⟨hb, j, ⟨hj, h0, hmin⟩, ⟨_, hF, _⟩, rfl, rfl⟩
  · exact ⟨⟨hR, Ext.refl _ _, .inl rfl, fun k hk => by rw [if_neg (by omega)]; omega, fun h => absurd rfl h, fun h => absurd rfl h, fun k hk => by have := hc k hk; omega, by omega⟩, by simp [bytesL]⟩
  · have e0 : ((j : Int) + 1 - 1).toNat = j := by omega
    have hle := made_le (i := j) h1 hc hF
    refine ⟨⟨right_made hR hF hj h0 (fun k hk => by have := hle k hk; omega), made_ext hR h0, .inr ⟨⟨by omega, by omega, ?_⟩, ?_⟩, fun k hk => ?_, fun _ => by rw [e0]; exact h0, fun _ => by rw [e0, made_same], hle, by rw [used_made hR hF hj h0]; omega⟩, ?_⟩
    · rw [e0, made_same]; show (1 : Int) ≠ 0; omega
    · rw [e0, made_same]; rfl
    · rw [outs_made hR hF hj h0 k hk]
      by_cases e : k = j
      · subst e; rw [if_pos rfl, if_pos rfl, outs_free hR hk h0]; rfl
      · rw [if_neg e, if_neg (by omega)]; omega
    · unfold bytesL; rw [if_neg (by omega), e0, made_same]; rfl

theorem above_grew {n : Nat} {B D C : Nat → Blk} {l : Nat} {ks : List Int} {new a c : Int} (hB : Right n B) (hg : Grew n B D l new c) (h1 : 1 ≤ c) (hcm : c + 4 ≤ 1000000) (hin : new ≠ 0 → new ∈ ks) (h : Above n D (l + 1) ks new C a) : Grew n B C (l + 1) a (c + 4) ∧ kidsL C a = ks ∧ Ext n D C := by
  have hR := hg.right
  rcases h with ⟨rfl, rfl, rfl⟩ | ⟨hne, j, ⟨hj, h0, hmin⟩, ⟨_, hF, _⟩, rfl, rfl⟩
  · have hn0 : new = 0 := by
      by_cases e : new = 0
      · exact e
      · have := hin e
        simp at this; exact this
    subst hn0
    exact ⟨⟨hg.right, hg.ext, .inl rfl, hg.out, fun h => absurd rfl h, fun h => absurd rfl h, fun k hk => by have := hg.few k hk; omega, by have := hg.used; omega⟩, by simp [kidsL], Ext.refl _ _⟩
  · have e0 : ((j : Int) + 1 - 1).toNat = j := by omega
    have hle := made_le (i := j) h1 hg.few hF
    have hM := right_made hR hF hj h0 (fun k hk => by have := hle k hk; omega)
    have hE := made_ext (K := nodeB (l + 1) ks) hR h0
    have hom := outs_made hR hF hj h0
    have hBj : (B j).refs = 0 := by
      by_cases e : (B j).refs = 0
      · exact e
      · exact absurd h0 (hg.ext.keep j hj e).1
    have hs : made D (nodeB (l + 1) ks) j j = { nodeB (l + 1) ks with refs := 1 } := made_same _ _ _
    have hum := used_made hR hF hj h0
    by_cases hn0 : new = 0
    · subst hn0
      have e1 : lessOne (made D (nodeB (l + 1) ks) j) 0 = made D (nodeB (l + 1) ks) j := by simp [lessOne]
      rw [e1]
      refine ⟨⟨hM, hg.ext.trans hE, .inr ⟨⟨by omega, by omega, ?_⟩, ?_⟩, fun k hk => ?_, fun _ => by rw [e0]; exact hBj, fun _ => by rw [e0, hs], hle, by have := hg.used; omega⟩, ?_, hE⟩
      · rw [e0, hs]; show (1 : Int) ≠ 0; omega
      · rw [e0, hs]; rfl
      · rw [hom k hk]
        have := hg.out k hk
        rw [if_neg (by omega)] at this
        by_cases e : k = j
        · subst e; rw [if_pos rfl, if_pos rfl]; have := outs_free hR hk h0; omega
        · rw [if_neg e, if_neg (by omega)]; exact this
      · unfold kidsL; rw [if_neg (by omega), e0, hs]; rfl
    · rcases hg.root with h | ⟨⟨n1, n2, n3⟩, _⟩
      · exact absurd h hn0
      obtain ⟨m, rfl⟩ : ∃ m : Nat, new = (m : Int) + 1 := ⟨(new - 1).toNat, by omega⟩
      have em : ((m : Int) + 1 - 1).toNat = m := by omega
      have hm : m < n := by omega
      have hm1 := hg.one hn0
      rw [em] at hm1
      have hmj : m ≠ j := fun e => by rw [e, h0] at hm1; omega
      have hcnt : 0 < (nodeB (l + 1) ks).kids.count ((m : Int) + 1) := List.count_pos_iff.2 (hin hn0)
      have hmr : 1 < (made D (nodeB (l + 1) ks) j m).refs := by
        rw [made_other _ _ hmj]; show 1 < (D m).refs + _; omega
      have hmo : outs n (made D (nodeB (l + 1) ks) j) m = outs n B m + 1 := by
        rw [hom m hm, if_neg hmj, hg.out m hm, if_pos rfl]
      have hBm := hg.fresh hn0
      rw [em] at hBm
      have hB0 := outs_free hB hm hBm
      obtain ⟨q1, q2, q3, q4, q5⟩ := less_right hM hm hmr (by omega)
      have hjs : lessOne (made D (nodeB (l + 1) ks) j) ((m : Int) + 1) j = { nodeB (l + 1) ks with refs := 1 } := by rw [q4 j (Ne.symm hmj), hs]
      refine ⟨⟨q1, (hg.ext.trans hE).trans q3, .inr ⟨⟨by omega, by omega, ?_⟩, ?_⟩, fun k hk => ?_, fun _ => by rw [e0]; exact hBj, fun _ => by rw [e0, hjs], fun k hk => Int.le_trans (q5 k) (hle k hk), by have := hg.used; have := used_mono (n := n) (fun k _ => q5 k); omega⟩, ?_, hE.trans q3⟩
      · rw [e0, hjs]; show (1 : Int) ≠ 0; omega
      · rw [e0, hjs]; rfl
      · rw [q2 k hk, hom k hk]
        have h3 := hg.out k hk
        by_cases e : k = j
        · subst e
          rw [if_pos rfl, if_neg (Ne.symm hmj), if_pos rfl]
          rw [if_neg (by omega)] at h3
          have := outs_free hR hk h0; omega
        · by_cases e' : k = m
          · subst e'
            rw [if_neg e, if_pos rfl, if_neg (by omega)]
            rw [if_pos rfl] at h3
            omega
          · rw [if_neg e, if_neg e', if_neg (by omega)]
            rw [if_neg (by omega)] at h3
            omega
      · unfold kidsL; rw [if_neg (by omega), e0, hjs]; rfl
end Go.Proofs.YtnmcgmpmcliinaaGreat

namespace Go.Proofs.YtnmcgmpmcliinaaGreat
open Go.RowKit

theorem pw_mono {i l : Nat} (h : i ≤ l) : pw i ≤ pw l := by
  induction l with
  | zero => obtain rfl : i = 0 := by omega
            exact Nat.le_refl _
  | succ l ih =>
    by_cases e : i = l + 1
    · subst e; exact Nat.le_refl _
    · have := ih (by omega); simp only [pw]; omega
theorem pw_le {l : Nat} (h : l ≤ 3) : pw l ≤ 64 := pw_mono h

theorem width_any (l : Nat) (w : World) (hl : l ≤ 3) :
    Calls Tryz.prog 113 #[.int .i64 l] w fun e w' => e = .returned (.int .i64 (pw l)) ∧ w' = w := by
  go_enter Tryz.func113, Tryz.ntmps113
  go_wp2_with fail
  go_loopw [3, 5] (fun v u wr => ∃ i : Nat, i ≤ l ∧ v = .int .i64 (pw i) ∧ u = .int .i64 i ∧ wr = w) (fun _ u _ => l - (Go.RowKit.intOf u).toNat)
  case atStart => exact ⟨0, Nat.zero_le _, rfl, rfl, rfl⟩
  case round =>
    obtain ⟨i, hil, rfl, rfl, rfl⟩ := hrel
    have hb := pw_le (Nat.le_trans hil hl)
    have hs : ((pw i : Nat) : Int) * 4 = ((pw (i + 1) : Nat) : Int) := by simp only [pw]; omega
    have hs2 : Int.ofNat (pw i) * 4 = ((pw (i + 1) : Nat) : Int) := hs
    by_cases hlt : i < l
    · generalize pw i = q at *
      go_wp2_with fail
      go_roundw
      case rel => exact ⟨i + 1, by omega, by go_num, by go_num, by simp⟩
      case measure => simp [Go.RowKit.intOf]; omega
    · obtain rfl : i = l := by omega
      clear hs hs2
      go_wp2_with fail
      go_ret
      exact ⟨rfl, rfl⟩

/-- what Leaves answers -/
def RetL (e : Ending) (lv : Int) : Prop := (∃ l : Nat, l ≤ 3 ∧ lv = l ∧ e = .returned (.tuple #[.int .i64 (pw l), .int .i64 0])) ∨ ((lv < 0 ∨ 3 < lv) ∧ e = .returned (.tuple #[.int .i64 0, .int .i64 3]))

theorem leaves_any (lv : Int) (w : World) :
    Calls Tryz.prog 143 #[.int .i64 lv] w fun e w' => RetL e lv ∧ w' = w := by
  by_cases h1 : lv < 0
  · go_enter Tryz.func143, Tryz.ntmps143
    go_wp2_with fail
    go_ret2
    exact ⟨.inr ⟨.inl h1, rfl⟩, rfl⟩
  · by_cases h2 : 3 < lv
    · go_enter Tryz.func143, Tryz.ntmps143
      go_wp2_with fail
      go_ret2
      exact ⟨.inr ⟨.inr h2, rfl⟩, rfl⟩
    · obtain ⟨l, rfl⟩ : ∃ l : Nat, lv = (l : Int) := ⟨lv.toNat, by omega⟩
      have hl : l ≤ 3 := by omega
      go_enter Tryz.func143, Tryz.ntmps143
      go_wp2_with fail
      refine (width_any l w hl).mono ?_
      rintro e w1 ⟨rfl, rfl⟩
      go_wp2_with fail
      go_ret2
      exact ⟨.inl ⟨l, hl, rfl, rfl⟩, rfl⟩

/-- it answers these bytes -/
def RetY (e : Ending) (w : World) (l : List Int) : Prop := ∃ ba bn bc, e = .returned (.slice ba bn bc) ∧ NumsAt (fun _ => True) .u8 w ba bn l
/-- the bytes of the block at a, where they lie -/
theorem bytesOf_any (p : Addr) (a : Option Addr) (n c : Nat) (B : Nat → Blk) (x : Int) (w : World) (hn : n ≤ 400) (hs : w.cell? p = some (.slice a n c)) (hS : StoreAt w a n B) (hx : x = 0 ∨ There n B x) :
    Calls Tryz.prog 111 #[.pointer (some p), .int .i64 x] w fun e w' => RetY e w (bytesL B x) ∧ w' = w := by
  by_cases h0 : x = 0
  · subst h0
    go_enter Tryz.func111, Tryz.ntmps111
    go_wp2_with fail
    go_ret
    exact ⟨⟨none, 0, 0, rfl, by simp [bytesL]; exact numsAt_nil _ _ _ _⟩, rfl⟩
  · rcases hx with hx | hx
    · exact absurd hx h0
    have hx0' : (x == 0) = false := by simp [h0]
    obtain ⟨i, rfl⟩ : ∃ i : Nat, x = (i : Int) + 1 := ⟨(x - 1).toNat, by have := hx.1; omega⟩
    have hi : i < n := by have := hx.2.1; omega
    obtain ⟨b, off, rfl, hlt, hB⟩ := hS (by omega)
    obtain ⟨ka, kn, kc, ba, bn, bc, hb⟩ := hB i hi
    have c3 := hb.c3
    have hbb := hb.bytes
    have e1 : bytesL B ((i : Int) + 1) = (B i).bytes := by unfold bytesL; rw [if_neg h0, show ((i : Int) + 1 - 1).toNat = i by omega]
    rw [e1]
    replace hbb := hid hbb
    clear hb hB hS e1 hx
    go_enter Tryz.func111, Tryz.ntmps111
    go_wp2_with fail
    refine (at_ptr p b off n c i _ hn hs hi).mono ?_
    rintro e w1 ⟨rfl, rfl⟩
    go_wp2_with fail
    go_ret
    exact ⟨⟨_, _, _, rfl, hbb.out⟩, rfl⟩

/-- what check answers 0 to -/
def Checked (n : Nat) (B : Nat → Blk) (root lv i : Int) : Prop := Right n B ∧ ∃ l : Nat, l ≤ 3 ∧ lv = l ∧ Root n B l root ∧ 0 ≤ i ∧ i < pw l

set_option maxHeartbeats 1000000 in
theorem treeCheck_any (p : Addr) (a : Option Addr) (n c : Nat) (B : Nat → Blk) (root lv i : Int) (w : World) (h : PtrAt w p a n c B) :
    Calls Tryz.prog 108 #[.pointer (some p), .int .i64 root, .int .i64 lv, .int .i64 i] w fun e w' => RetE e (Checked n B root lv i) ∧ Below w.heap.size w w' := by
  replace h := hid h
  go_enter Tryz.func108, Tryz.ntmps108
  go_wp2_with fail
  refine (check_any p a n c B w h.out).mono ?_
  rintro e w1 ⟨⟨e1, rfl, he⟩, b1⟩
  replace h := hid (h.out.below b1)
  by_cases h0 : e1 = 0
  · have h0' : (e1 == 0) = true := by simp [h0]
    have hR := hid (he.1 h0)
    have hn := hR.out.small
    clear he
    go_wp2_with fail
    refine (leaves_any lv w1).mono ?_
    rintro e w2 ⟨⟨l, hl, rfl, rfl⟩ | ⟨hlv, rfl⟩, rfl⟩
    · have hb := pw_le hl
      by_cases hr0 : root = 0
      · have hr0' : (root == 0) = true := by simp [hr0]
        by_cases hi : 0 ≤ i ∧ i < pw l
        · have hi1 : ¬ (i < 0) := by omega
          have hi2 : ¬ (((pw l : Nat) : Int) ≤ i) := by omega
          have hy := hid (retE_yes (p := Checked n B root l i) ⟨hR.out, l, hl, rfl, .inl hr0, hi.1, hi.2⟩)
          clear hi
          generalize pw l = q at *
          go_wp2_with fail
          go_ret
          exact ⟨hy.out, b1⟩
        · have hno : Hid (¬ Checked n B root l i) := hid (fun f => by obtain ⟨_, l', _, e, _, h1, h2⟩ := f; have e' : l = l' := (by omega); subst e'; exact hi ⟨h1, h2⟩)
          by_cases hi1 : i < 0
          · clear hi
            generalize pw l = q at *
            go_wp2_with fail
            go_ret
            exact ⟨retE_no 3 (by omega) hno.out, b1⟩
          · have hi2 : ((pw l : Nat) : Int) ≤ i := by omega
            clear hi
            generalize pw l = q at *
            go_wp2_with fail
            go_ret
            exact ⟨retE_no 3 (by omega) hno.out, b1⟩
      · have hr0' : (root == 0) = false := by simp [hr0]
        have s1 := h.out.cell
        go_wp2_with fail
        refine (there_any p a n c B root w2 hn s1 h.out.store).mono ?_
        rintro e w3 ⟨⟨t, rfl, ht⟩, rfl⟩
        cases t
        · have hno : Hid (¬ Checked n B root l i) := hid (fun f => by
            obtain ⟨_, l', _, e, hr, _⟩ := f
            rcases hr with hr | ⟨hr, _⟩
            · exact hr0 hr
            · exact absurd (ht.2 hr) (by simp))
          clear ht
          go_wp2_with fail
          go_ret
          exact ⟨retE_no 5 (by omega) hno.out, b1⟩
        · have hth := ht.1 rfl
          obtain ⟨j, rfl⟩ : ∃ j : Nat, root = (j : Int) + 1 := ⟨(root - 1).toNat, by have := hth.1; omega⟩
          have hj : j < n := by have := hth.2.1; omega
          obtain ⟨b, off, rfl, hlt, hB⟩ := h.out.store (by omega)
          obtain ⟨ka, kn, kc, ba, bn, bc, hbk⟩ := hB j hj
          have c1 := hbk.c1
          have ej : ((j : Int) + 1 - 1).toNat = j := by omega
          clear ht hbk hB
          replace hth := hid hth
          go_wp2_with fail
          refine (at_ptr p b off n c j _ hn s1 hj).mono ?_
          rintro e w4 ⟨rfl, rfl⟩
          by_cases hlv : (B j).level = l
          · have hlv' : ((B j).level == (l : Int)) = true := by simp [hlv]
            by_cases hi : 0 ≤ i ∧ i < pw l
            · have hi1 : ¬ (i < 0) := by omega
              have hi2 : ¬ (((pw l : Nat) : Int) ≤ i) := by omega
              have hy := hid (retE_yes (p := Checked n B ((j : Int) + 1) l i) ⟨hR.out, l, hl, rfl, .inr ⟨hth.out, by rw [ej]; exact hlv⟩, hi.1, hi.2⟩)
              clear hi
              generalize pw l = q at *
              generalize (B j).level = lv at *
              go_wp2_with fail
              go_ret
              exact ⟨hy.out, b1⟩
            · have hno : Hid (¬ Checked n B ((j : Int) + 1) l i) := hid (fun f => by obtain ⟨_, l', _, e, _, h1, h2⟩ := f; have e' : l = l' := (by omega); subst e'; exact hi ⟨h1, h2⟩)
              by_cases hi1 : i < 0
              · clear hi
                generalize pw l = q at *
                generalize (B j).level = lv at *
                go_wp2_with fail
                go_ret
                exact ⟨retE_no 3 (by omega) hno.out, b1⟩
              · have hi2 : ((pw l : Nat) : Int) ≤ i := by omega
                clear hi
                generalize pw l = q at *
                generalize (B j).level = lv at *
                go_wp2_with fail
                go_ret
                exact ⟨retE_no 3 (by omega) hno.out, b1⟩
          · have hlv' : ((B j).level == (l : Int)) = false := by simp [hlv]
            have hlv2 : ((B j).level != (l : Int)) = true := by simp [hlv]
            have hj2 : ((j : Int) + 1 != 0) = true := by simp; omega
            have hno : Hid (¬ Checked n B ((j : Int) + 1) l i) := hid (fun f => by
              obtain ⟨_, l', _, e, hr, _⟩ := f
              obtain rfl : l = l' := by omega
              rcases hr with hr | ⟨_, hr⟩
              · omega
              · rw [ej] at hr; exact hlv hr)
            clear hlv
            generalize (B j).level = lv at *
            go_wp2_with fail
            go_ret
            exact ⟨retE_no 4 (by omega) hno.out, b1⟩
    · have hno : Hid (¬ Checked n B root lv i) := hid (fun f => by obtain ⟨_, l, _, e, _⟩ := f; omega)
      go_wp2_with fail
      go_ret
      exact ⟨retE_no 3 (by omega) hno.out, b1⟩
  · have h0' : (e1 == 0) = false := by simp [h0]
    have hno : Hid (¬ Checked n B root lv i) := hid (fun f => h0 (he.2 f.1))
    clear he
    go_wp2_with fail
    go_ret
    exact ⟨retE_no e1 h0 hno.out, b1⟩
end Go.Proofs.YtnmcgmpmcliinaaGreat

namespace Go.Proofs.YtnmcgmpmcliinaaGreat
open Go.RowKit

theorem Tryz.infoInt1 : (Tryz.prog.info? 3).map (·.size) = some 1 := by kernel_rfl

theorem copy4 (w : World) (g kb ko kc : Nat) (k0 k1 k2 k3 : Int) (t : TypeId) (hg : CellsAt w g #[.int .i64 0, .int .i64 0, .int .i64 0, .int .i64 0] t)
    (c0 : w.cell? ⟨kb, ko, none⟩ = some (.int .i64 k0)) (c1 : w.cell? ⟨kb, ko + 1, none⟩ = some (.int .i64 k1)) (c2 : w.cell? ⟨kb, ko + 2, none⟩ = some (.int .i64 k2)) (c3 : w.cell? ⟨kb, ko + 3, none⟩ = some (.int .i64 k3)) :
    ∃ w', (∀ ty, (Builtin.copy_ #[77, 77] ty #[.slice (some ⟨g, 0, none⟩) 4 4, .slice (some ⟨kb, ko, none⟩) 4 kc]).run Tryz.prog w = .ok (goInt 4) w') ∧ CellsAt w' g #[.int .i64 k0, .int .i64 k1, .int .i64 k2, .int .i64 k3] t ∧ Kept g w w' := by
  refine ⟨w.setRow g #[.int .i64 k0, .int .i64 k1, .int .i64 k2, .int .i64 k3], fun ty => ?_, ?_, ⟨rfl, rfl, rfl, by simp [World.setRow], fun k hk => setRow_other w g k _ hk⟩⟩
  · have := run_copy_row (P := Tryz.prog) w 77 77 ty 3 g 0 4 4 ⟨kb, ko, none⟩ 4 kc _ t [.int .i64 k0, .int .i64 k1, .int .i64 k2, .int .i64 k3] Tryz.underlying77 Tryz.infoInt1 hg rfl (by
      intro j v hj
      match j, hj with
      | 0, hj => simp at hj; subst hj; exact c0
      | 1, hj => simp at hj; subst hj; exact c1
      | 2, hj => simp at hj; subst hj; exact c2
      | 3, hj => simp at hj; subst hj; exact c3
      | j + 4, hj => simp at hj) (by simp) (by intro v hv; simp at hv; rcases hv with rfl | rfl | rfl | rfl <;> rfl)
    simpa using this
  · exact setRow_heap w g _ _ t _ hg

theorem Tryz.info4 : (Tryz.prog.info? 181).map (fun i => (i.zero, i.size, i.bytes)) = some (some (.agg #[.int .i64 0, .int .i64 0, .int .i64 0, .int .i64 0]), 4, 32) := by kernel_rfl

set_option maxHeartbeats 2000000 in
theorem kidsOf_any (p : Addr) (a : Option Addr) (n c : Nat) (B : Nat → Blk) (x : Int) (k0 k1 k2 k3 : Int) (w : World) (hn : n ≤ 400) (h : PtrAt w p a n c B) (hx : x = 0 ∨ There n B x) (hk : kidsL B x = [k0, k1, k2, k3]) :
    Calls Tryz.prog 112 #[.pointer (some p), .int .i64 x] w fun e w' => e = .returned (.agg #[.int .i64 k0, .int .i64 k1, .int .i64 k2, .int .i64 k3]) ∧ Below w.heap.size w w' := by
  have b0 := (below_alloc w (.cells #[.int .i64 0, .int .i64 0, .int .i64 0, .int .i64 0] 181)).alloc (by simp) (.cells #[.int .i64 0, .int .i64 0, .int .i64 0, .int .i64 0] 181)
  have r1 : CellsAt _ w.heap.size #[.int .i64 0, .int .i64 0, .int .i64 0, .int .i64 0] 181 := (cellsAt_alloc w _ _).below (below_alloc _ (.cells #[.int .i64 0, .int .i64 0, .int .i64 0, .int .i64 0] 181))
  have r2 := cellsAt_alloc2 w (.cells #[.int .i64 0, .int .i64 0, .int .i64 0, .int .i64 0] 181) #[.int .i64 0, .int .i64 0, .int .i64 0, .int .i64 0] 181
  replace h := hid h
  replace r1 := hid r1
  replace r2 := hid r2
  by_cases h0 : x = 0
  · subst h0
    obtain ⟨rfl, rfl, rfl, rfl⟩ : k0 = 0 ∧ k1 = 0 ∧ k2 = 0 ∧ k3 = 0 := by rw [kidsL_zero] at hk; simp at hk; omega
    go_enter Tryz.func112, Tryz.ntmps112
    go_wp2_with fail
    refine bodyPost_ret (v := .agg #[.int .i64 0, .int .i64 0, .int .i64 0, .int .i64 0]) ?_ rfl ⟨rfl, b0⟩
    exact results_cell_row rfl _ _ w.heap.size _ _ _ _ rfl r1.out Tryz.underlying181 rfl (by kernel_rfl)
  · rcases hx with hx | hx
    · exact absurd hx h0
    have hx0' : (x == 0) = false := by simp [h0]
    obtain ⟨i, rfl⟩ : ∃ i : Nat, x = (i : Int) + 1 := ⟨(x - 1).toNat, by have := hx.1; omega⟩
    have hi : i < n := by have := hx.2.1; omega
    have hP := h.out.below b0
    have s1 := hP.cell
    obtain ⟨b, off, rfl, hlt, hB⟩ := hP.store (by omega)
    obtain ⟨ka, kn, kc, ba, bn, bc, hb⟩ := hB i hi
    have c2 := hb.c2
    have e1 : kidsL B ((i : Int) + 1) = (B i).kids := by unfold kidsL; rw [if_neg h0, show ((i : Int) + 1 - 1).toNat = i by omega]
    rw [e1] at hk
    have hkk := hb.kids
    rw [hk] at hkk
    obtain rfl : kn = 4 := hkk.1.symm
    obtain ⟨kb, ko, rfl, hkb, _, hc⟩ := hkk.2.2 (by omega)
    have q0 : World.cell? _ ⟨kb, ko, none⟩ = some (.int .i64 k0) := hc 0 (by omega)
    have q1 : World.cell? _ ⟨kb, ko + 1, none⟩ = some (.int .i64 k1) := hc 1 (by omega)
    have q2 : World.cell? _ ⟨kb, ko + 2, none⟩ = some (.int .i64 k2) := hc 2 (by omega)
    have q3 : World.cell? _ ⟨kb, ko + 3, none⟩ = some (.int .i64 k3) := hc 3 (by omega)
    clear hc hkk hk e1 hb hB hP hx
    go_enter Tryz.func112, Tryz.ntmps112
    go_upto_region 3 with fail
    have bd := b0.drew
    obtain ⟨w5, hcp, k5, kp5⟩ := copy4 _ (w.heap.size + 1) kb ko kc k0 k1 k2 k3 181 (r2.out.below (below_drew _ _)) q0 q1 q2 q3
    clear q0 q1 q2 q3
    replace k5 := hid k5
    replace kp5 := hid kp5
    go_cut [] from 8 (fun wc => CellsAt wc w.heap.size #[.int .i64 0, .int .i64 0, .int .i64 0, .int .i64 0] 181 ∧ CellsAt wc (w.heap.size + 1) #[.int .i64 k0, .int .i64 k1, .int .i64 k2, .int .i64 k3] 181 ∧ Below w.heap.size w wc)
    case first =>
      go_region_with (go_at_call 121; refine (at_ptr p b off n c i _ hn ?_ hi).mono ?_; exact s1; rintro e w1 ⟨rfl, rfl⟩)
      all_goals (go_wp2_with fail; go_meet; exact ⟨(by unfold CellsAt; rw [kp5.out.block w.heap.size (by omega)]; exact r1.out.below (below_drew _ _)), k5.out, bd.trans (kp5.out.below (by omega))⟩)
    case rest =>
      obtain ⟨m1, m2, bm⟩ := hcut
      clear hcp k5 kp5 bd r1 r2 b0 s1 hlt hkb c2 h
      have d0 := m1.cell 0
      have d1 := m1.cell 1
      have d2 := m1.cell 2
      have d3 := m1.cell 3
      have e0 := m1.frozen 0
      have e1 := m1.frozen 1
      have e2 := m1.frozen 2
      have e3 := m1.frozen 3
      have l0 := m2.cell 0
      have l1 := m2.cell 1
      have l2 := m2.cell 2
      have l3 := m2.cell 3
      simp at d0 d1 d2 d3 l0 l1 l2 l3
      replace m1 := hid m1
      replace m2 := hid m2
      go_wp2_with fail
      clear d0 d1 d2 d3 e0 e1 e2 e3 l0 l1 l2 l3
      rename_i wc
      have kk2 := kept_put4 wc w.heap.size 0 (.int .i64 k0) (.int .i64 k1) (.int .i64 k2) (.int .i64 k3)
      have kz := (((m1.out.set 0 (.int .i64 k0)).set 1 (.int .i64 k1)).set 2 (.int .i64 k2)).set 3 (.int .i64 k3)
      simp only [List.setIfInBounds_toArray, List.set_cons_succ, List.set_cons_zero] at kz
      refine bodyPost_ret (v := .agg #[.int .i64 k0, .int .i64 k1, .int .i64 k2, .int .i64 k3]) ?_ rfl ⟨rfl, bm.trans (kk2.below (Nat.le_refl _))⟩
      exact results_cell_row rfl _ _ w.heap.size _ _ _ _ rfl kz Tryz.underlying181 rfl (by kernel_rfl)
end Go.Proofs.YtnmcgmpmcliinaaGreat
