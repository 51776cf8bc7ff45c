/-
  Leaves below a root, and what Put makes, told without memory. Nothing here is trusted.
-/
import Derived.Test.YtaagnojdpedilacSto3
set_option linter.unusedVariables false
namespace Go.Proofs.Ytaagnojdpedilac

/-- how many leaves stand below a block of that level -/
def pw : Nat → Nat
  | 0 => 1
  | l + 1 => 4 * pw l
theorem pw_pos : ∀ l, 0 < pw l
  | 0 => by simp [pw]
  | l + 1 => by have := pw_pos l; simp only [pw]; omega

def kidsL (B : Nat → Blk) (a : Int) : List Int := if a = 0 then [0, 0, 0, 0] else (B (a - 1).toNat).kids
def bytesL (B : Nat → Blk) (a : Int) : List Int := if a = 0 then [] else (B (a - 1).toNat).bytes
/-- the leaf at place i -/
def leafAt (B : Nat → Blk) : Nat → Int → Nat → List Int
  | 0, a, _ => bytesL B a
  | l + 1, a, i => leafAt B l ((kidsL B a).getD (i / pw l) 0) (i % pw l)

/-- a root of that level -/
def Root (n : Nat) (B : Nat → Blk) (l : Nat) (a : Int) : Prop := a = 0 ∨ (There n B a ∧ (B (a - 1).toNat).level = l)

theorem kidsL_zero (B : Nat → Blk) : kidsL B 0 = [0, 0, 0, 0] := by simp [kidsL]
theorem Root.len {n : Nat} {B : Nat → Blk} {l : Nat} {a : Int} (hR : Right n B) (h : Root n B (l + 1) a) : (kidsL B a).length = 4 := by
  rcases h with rfl | ⟨⟨h1, h2, h3⟩, h4⟩
  · simp [kidsL]
  · unfold kidsL
    rw [if_neg (by omega)]
    rcases hR.one _ (ix h1 h2).1 with ⟨h, _⟩ | ⟨_, ⟨h, _⟩ | ⟨_, h, _⟩⟩
    · exact absurd h h3
    · omega
    · exact h
theorem Root.kid {n : Nat} {B : Nat → Blk} {l : Nat} {a : Int} (hR : Right n B) (h : Root n B (l + 1) a) {x : Int} (hx : x ∈ kidsL B a) : Root n B l x := by
  rcases h with rfl | ⟨⟨h1, h2, h3⟩, h4⟩
  · simp [kidsL] at hx; exact .inl hx
  · unfold kidsL at hx
    rw [if_neg (by omega)] at hx
    rcases (hR.one _ (ix h1 h2).1).kids x hx with h | ⟨ht, hl⟩
    · exact .inl h
    · exact .inr ⟨ht, by rw [hl, h4]; omega⟩
theorem getD_mem {l : List Int} {j : Nat} (h : j < l.length) : l.getD j 0 ∈ l := by
  have e : l.getD j 0 = l[j] := by simp [List.getD, h]
  rw [e]
  exact List.getElem_mem h
theorem Root.kidAt {n : Nat} {B : Nat → Blk} {l : Nat} {a : Int} (hR : Right n B) (h : Root n B (l + 1) a) {j : Nat} (hj : j < 4) : Root n B l ((kidsL B a).getD j 0) :=
  h.kid hR (getD_mem (by rw [h.len hR]; exact hj))
theorem Root.leaf {n : Nat} {B : Nat → Blk} {a : Int} (hR : Right n B) (h : Root n B 0 a) : (bytesL B a).length = if a = 0 then 0 else 4 := by
  rcases h with rfl | ⟨⟨h1, h2, h3⟩, h4⟩
  · simp [bytesL]
  · unfold bytesL
    rw [if_neg (by omega), if_neg (by omega)]
    rcases hR.one _ (ix h1 h2).1 with ⟨h, _⟩ | ⟨_, ⟨_, _, h⟩ | ⟨h, _⟩⟩
    · exact absurd h h3
    · exact h
    · omega
theorem Root.level {n : Nat} {B : Nat → Blk} {l : Nat} {a : Int} (hR : Right n B) (h : Root n B l a) (h0 : a ≠ 0) : l ≤ 3 := by
  rcases h with h | ⟨⟨h1, h2, h3⟩, h4⟩
  · exact absurd h h0
  · have := (hR.one _ (ix h1 h2).1).bounds; omega

/-- C has all that B has -/
structure Ext (n : Nat) (B C : Nat → Blk) : Prop where
  keep : ∀ i, i < n → (B i).refs ≠ 0 → (C i).refs ≠ 0 ∧ (C i).level = (B i).level ∧ (C i).kids = (B i).kids ∧ (C i).bytes = (B i).bytes
theorem Ext.refl (n : Nat) (B : Nat → Blk) : Ext n B B := ⟨fun i _ h => ⟨h, rfl, rfl, rfl⟩⟩
theorem Ext.trans {n : Nat} {B C D : Nat → Blk} (h : Ext n B C) (k : Ext n C D) : Ext n B D := ⟨fun i hi h0 => by
  obtain ⟨a1, a2, a3, a4⟩ := h.keep i hi h0
  obtain ⟨b1, b2, b3, b4⟩ := k.keep i hi a1
  exact ⟨b1, by rw [b2, a2], by rw [b3, a3], by rw [b4, a4]⟩⟩
theorem Ext.there {n : Nat} {B C : Nat → Blk} (h : Ext n B C) {x : Int} (hx : There n B x) : There n C x ∧ (C (x - 1).toNat).level = (B (x - 1).toNat).level ∧ kidsL C x = kidsL B x ∧ bytesL C x = bytesL B x := by
  obtain ⟨h1, h2, h3⟩ := hx
  obtain ⟨a1, a2, a3, a4⟩ := h.keep _ (ix h1 h2).1 h3
  refine ⟨⟨h1, h2, a1⟩, a2, ?_, ?_⟩
  · unfold kidsL; rw [if_neg (by omega), if_neg (by omega), a3]
  · unfold bytesL; rw [if_neg (by omega), if_neg (by omega), a4]
theorem Ext.root {n : Nat} {B C : Nat → Blk} (h : Ext n B C) {l : Nat} {a : Int} (ha : Root n B l a) : Root n C l a ∧ kidsL C a = kidsL B a ∧ bytesL C a = bytesL B a := by
  rcases ha with rfl | ⟨ht, hl⟩
  · exact ⟨.inl rfl, by simp [kidsL], by simp [bytesL]⟩
  · obtain ⟨a1, a2, a3, a4⟩ := h.there ht
    exact ⟨.inr ⟨a1, by rw [a2, hl]⟩, a3, a4⟩
theorem Ext.leaf {n : Nat} {B C : Nat → Blk} (h : Ext n B C) (hR : Right n B) : ∀ (l : Nat) (a : Int), Root n B l a → ∀ i, i < pw l → leafAt C l a i = leafAt B l a i
  | 0, a, ha, i, _ => (h.root ha).2.2
  | l + 1, a, ha, i, hi => by
    have hp := pw_pos l
    have hd : i / pw l < 4 := by simp only [pw] at hi; exact Nat.div_lt_of_lt_mul (by rw [Nat.mul_comm]; exact hi)
    simp only [leafAt]
    rw [(h.root ha).2.1]
    exact Ext.leaf h hR l _ (ha.kidAt hR hd) _ (Nat.mod_lt _ hp)
theorem leafAt_zero (B : Nat → Blk) : ∀ (l i : Nat), i < pw l → leafAt B l 0 i = []
  | 0, i, _ => by simp [leafAt, bytesL]
  | l + 1, i, hi => by
    have hp := pw_pos l
    have hd : i / pw l < 4 := by simp only [pw] at hi; exact Nat.div_lt_of_lt_mul (by rw [Nat.mul_comm]; exact hi)
    simp only [leafAt, kidsL_zero]
    have e : ([0, 0, 0, 0] : List Int).getD (i / pw l) 0 = 0 := by
      generalize i / pw l = d at *
      match d, hd with
      | 0, _ => rfl
      | 1, _ => rfl
      | 2, _ => rfl
      | 3, _ => rfl
    rw [e]
    exact leafAt_zero B l _ (Nat.mod_lt _ hp)
/-- leaves have no bytes, or four; all are bytes -/
theorem leafAt_len {n : Nat} {B : Nat → Blk} (hR : Right n B) : ∀ (l : Nat) (a : Int), Root n B l a → ∀ i, i < pw l → (leafAt B l a i).length ≤ 4
  | 0, a, ha, i, _ => by
    simp only [leafAt]
    rw [ha.leaf hR]
    split <;> omega
  | l + 1, a, ha, i, hi => by
    have hp := pw_pos l
    have hd : i / pw l < 4 := by simp only [pw] at hi; exact Nat.div_lt_of_lt_mul (by rw [Nat.mul_comm]; exact hi)
    simp only [leafAt]
    exact leafAt_len hR l _ (ha.kidAt hR hd) _ (Nat.mod_lt _ hp)

/-- one holder less of the block at a, if there is one -/
def lessOne (B : Nat → Blk) (a : Int) : Nat → Blk := if a = 0 then B else upd B (a - 1).toNat { B (a - 1).toNat with refs := (B (a - 1).toNat).refs - 1 }

/-- K laid at the lowest free place j -/
def Lowest (n : Nat) (B : Nat → Blk) (j : Nat) : Prop := j < n ∧ (B j).refs = 0 ∧ ∀ k, k < j → (B k).refs ≠ 0

def leafB (b : List Int) : Blk := ⟨0, 0, [], b⟩
def nodeB (l : Nat) (ks : List Int) : Blk := ⟨0, l, ks, []⟩

/-- what putAbove makes of kids, one of which is new (or 0) -/
def Above (n : Nat) (B : Nat → Blk) (l : Nat) (ks : List Int) (new : Int) (C : Nat → Blk) (a : Int) : Prop :=
  (ks = [0, 0, 0, 0] ∧ C = B ∧ a = 0) ∨ (ks ≠ [0, 0, 0, 0] ∧ ∃ j : Nat, Lowest n B j ∧ Makeable n B (nodeB l ks) ∧ a = (j : Int) + 1 ∧ C = lessOne (made B (nodeB l ks) j) new)
def Leafed (n : Nat) (B : Nat → Blk) (b : List Int) (C : Nat → Blk) (a : Int) : Prop :=
  (b = [] ∧ C = B ∧ a = 0) ∨ (b ≠ [] ∧ ∃ j : Nat, Lowest n B j ∧ Makeable n B (leafB b) ∧ a = (j : Int) + 1 ∧ C = made B (leafB b) j)
/-- what put makes -/
def Puts (n : Nat) (b : List Int) : Nat → (Nat → Blk) → Int → Nat → (Nat → Blk) → Int → Prop
  | 0, B, _, _, C, a => Leafed n B b C a
  | l + 1, B, root, i, C, a => ∃ D k, Puts n b l B ((kidsL B root).getD (i / pw l) 0) (i % pw l) D k ∧ Above n D (l + 1) ((kidsL B root).set (i / pw l) k) k C a

theorem used_mono {B C : Nat → Blk} : ∀ {n : Nat}, (∀ k, k < n → (C k).refs ≤ (B k).refs) → usedTo C n ≤ usedTo B n
  | 0, _ => Nat.le_refl _
  | n + 1, h => by
    have h1 := used_mono (B := B) (C := C) (n := n) (fun k hk => h k (by omega))
    have h2 := h n (by omega)
    rw [usedTo_succ, usedTo_succ]
    by_cases e : 0 < (C n).refs
    · rw [if_pos e, if_pos (by omega)]; omega
    · rw [if_neg e]; omega
theorem used_full {n : Nat} {B : Nat → Blk} (hR : Right n B) (h : ¬ ∃ i, i < n ∧ (B i).refs = 0) : usedTo B n = n := by
  have key : ∀ m, m ≤ n → usedTo B m = m := by
    intro m
    induction m with
    | zero => intro _; rfl
    | succ m ih =>
      intro hm
      have hb := (hR.one m (by omega)).bounds
      have h0 : (B m).refs ≠ 0 := fun e => h ⟨m, by omega, e⟩
      rw [usedTo_succ, ih (by omega), if_pos (by omega)]
  exact key n (Nat.le_refl _)

/-- what a store has come to be, where the root a was made; nothing is held more often than c -/
structure Grew (n : Nat) (B C : Nat → Blk) (l : Nat) (a : Int) (c : Int) : Prop where
  right : Right n C
  ext : Ext n B C
  root : Root n C l a
  out : ∀ k, k < n → outs n C k = outs n B k + if (k : Int) + 1 = a then 1 else 0
  fresh : a ≠ 0 → (B (a - 1).toNat).refs = 0
  one : a ≠ 0 → (C (a - 1).toNat).refs = 1
  few : ∀ k, k < n → (C k).refs ≤ c
  used : usedTo C n ≤ usedTo B n + (l + 1)

theorem made_ext {n : Nat} {B : Nat → Blk} {K : Blk} {i : Nat} (hR : Right n B) (h0 : (B i).refs = 0) : Ext n B (made B K i) := ⟨fun k hk hk0 => by
  have e : k ≠ i := fun e => hk0 (by rw [e]; exact h0)
  have hb := (hR.one k hk).bounds
  rw [made_other _ _ e]
  exact ⟨by show (B k).refs + _ ≠ 0; omega, rfl, rfl, rfl⟩⟩
theorem made_le {n : Nat} {B : Nat → Blk} {K : Blk} {i : Nat} {c : Int} (h1 : 1 ≤ c) (hc : ∀ k, k < n → (B k).refs ≤ c) (hF : Form n B { K with refs := 1 }) : ∀ k, k < n → (made B K i k).refs ≤ c + 4 := by
  intro k hk
  have := hc k hk
  by_cases e : k = i
  · subst e; rw [made_same]; show (1 : Int) ≤ c + 4; omega
  · rw [made_other _ _ e]
    have h2 : K.kids.count ((k : Int) + 1) ≤ K.kids.length := List.count_le_length
    have h3 : K.kids.length ≤ 4 := hF.few
    show (B k).refs + _ ≤ _
    omega

/-- what is held by somebody outside is held once less -/
theorem less_right {n : Nat} {B : Nat → Blk} (hR : Right n B) {j : Nat} (hj : j < n) (h1 : 1 < (B j).refs) (h2 : 0 < outs n B j) :
    Right n (lessOne B ((j : Int) + 1)) ∧ (∀ k, k < n → outs n (lessOne B ((j : Int) + 1)) k = outs n B k - if k = j then 1 else 0) ∧ Ext n B (lessOne B ((j : Int) + 1)) ∧ (∀ k, k ≠ j → lessOne B ((j : Int) + 1) k = B k) ∧ (∀ k, (lessOne B ((j : Int) + 1) k).refs ≤ (B k).refs) := by
  have e0 : ((j : Int) + 1 - 1).toNat = j := by omega
  have e1 : lessOne B ((j : Int) + 1) = upd B j { B j with refs := (B j).refs - 1 } := by
    unfold lessOne; rw [if_neg (by omega), e0]
  rw [e1]
  have hT : RightT n B [(j : Int) + 1] := right_held hR (by omega) (by omega) (by rw [e0]; unfold outs at h2; omega)
  have hr := step_more hT (by omega) (by omega) (by rw [e0]; exact h1)
  rw [e0] at hr
  have ham : ∀ x, among n (upd B j { B j with refs := (B j).refs - 1 }) x = among n B x := fun x => among_congr x fun i hi => by
    by_cases e : i = j
    · subst e; rw [upd_same]
    · rw [upd_other _ _ _ _ e]
  refine ⟨hr, fun k hk => ?_, ⟨fun k hk h0 => ?_⟩, fun k hk => upd_other _ _ _ _ hk, fun k => ?_⟩
  · unfold outs
    rw [ham]
    by_cases e : k = j
    · subst e; rw [upd_same, if_pos rfl]; show (B k).refs - 1 - _ = _; omega
    · rw [upd_other _ _ _ _ e, if_neg e]; omega
  · by_cases e : k = j
    · subst e; rw [upd_same]; exact ⟨by show (B k).refs - 1 ≠ 0; omega, rfl, rfl, rfl⟩
    · rw [upd_other _ _ _ _ e]; exact ⟨h0, rfl, rfl, rfl⟩
  · by_cases e : k = j
    · subst e; rw [upd_same]; show (B k).refs - 1 ≤ _; omega
    · rw [upd_other _ _ _ _ e]; omega

theorem leafed_grew {n : Nat} {B C : Nat → Blk} {b : List Int} {a c : Int} (hR : Right n B) (h1 : 1 ≤ c) (hcm : c + 4 ≤ 1000000) (hc : ∀ k, k < n → (B k).refs ≤ c) (h : Leafed n B b C a) : Grew n B C 0 a (c + 4) ∧ bytesL C a = b := by
  rcases h with ⟨rfl, rfl, rfl⟩ | ⟨hb, j, ⟨hj, h0, hmin⟩, ⟨_, hF, _⟩, rfl, rfl⟩
  · exact ⟨⟨hR, Ext.refl _ _, .inl rfl, fun k hk => by rw [if_neg (by omega)]; omega, fun h => absurd rfl h, fun h => absurd rfl h, fun k hk => by have := hc k hk; omega, by omega⟩, by simp [bytesL]⟩
  · have e0 : ((j : Int) + 1 - 1).toNat = j := by omega
    have hle := made_le (i := j) h1 hc hF
    refine ⟨⟨right_made hR hF hj h0 (fun k hk => by have := hle k hk; omega), made_ext hR h0, .inr ⟨⟨by omega, by omega, ?_⟩, ?_⟩, fun k hk => ?_, fun _ => by rw [e0]; exact h0, fun _ => by rw [e0, made_same], hle, by rw [used_made hR hF hj h0]; omega⟩, ?_⟩
    · rw [e0, made_same]; show (1 : Int) ≠ 0; omega
    · rw [e0, made_same]; rfl
    · rw [outs_made hR hF hj h0 k hk]
      by_cases e : k = j
      · subst e; rw [if_pos rfl, if_pos rfl, outs_free hR hk h0]; rfl
      · rw [if_neg e, if_neg (by omega)]; omega
    · unfold bytesL; rw [if_neg (by omega), e0, made_same]; rfl

theorem above_grew {n : Nat} {B D C : Nat → Blk} {l : Nat} {ks : List Int} {new a c : Int} (hB : Right n B) (hg : Grew n B D l new c) (h1 : 1 ≤ c) (hcm : c + 4 ≤ 1000000) (hin : new ≠ 0 → new ∈ ks) (h : Above n D (l + 1) ks new C a) : Grew n B C (l + 1) a (c + 4) ∧ kidsL C a = ks ∧ Ext n D C := by
  have hR := hg.right
  rcases h with ⟨rfl, rfl, rfl⟩ | ⟨hne, j, ⟨hj, h0, hmin⟩, ⟨_, hF, _⟩, rfl, rfl⟩
  · have hn0 : new = 0 := by
      by_cases e : new = 0
      · exact e
      · have := hin e
        simp at this; exact this
    subst hn0
    exact ⟨⟨hg.right, hg.ext, .inl rfl, hg.out, fun h => absurd rfl h, fun h => absurd rfl h, fun k hk => by have := hg.few k hk; omega, by have := hg.used; omega⟩, by simp [kidsL], Ext.refl _ _⟩
  · have e0 : ((j : Int) + 1 - 1).toNat = j := by omega
    have hle := made_le (i := j) h1 hg.few hF
    have hM := right_made hR hF hj h0 (fun k hk => by have := hle k hk; omega)
    have hE := made_ext (K := nodeB (l + 1) ks) hR h0
    have hom := outs_made hR hF hj h0
    have hBj : (B j).refs = 0 := by
      by_cases e : (B j).refs = 0
      · exact e
      · exact absurd h0 (hg.ext.keep j hj e).1
    have hs : made D (nodeB (l + 1) ks) j j = { nodeB (l + 1) ks with refs := 1 } := made_same _ _ _
    have hum := used_made hR hF hj h0
    by_cases hn0 : new = 0
    · subst hn0
      have e1 : lessOne (made D (nodeB (l + 1) ks) j) 0 = made D (nodeB (l + 1) ks) j := by simp [lessOne]
      rw [e1]
      refine ⟨⟨hM, hg.ext.trans hE, .inr ⟨⟨by omega, by omega, ?_⟩, ?_⟩, fun k hk => ?_, fun _ => by rw [e0]; exact hBj, fun _ => by rw [e0, hs], hle, by have := hg.used; omega⟩, ?_, hE⟩
      · rw [e0, hs]; show (1 : Int) ≠ 0; omega
      · rw [e0, hs]; rfl
      · rw [hom k hk]
        have := hg.out k hk
        rw [if_neg (by omega)] at this
        by_cases e : k = j
        · subst e; rw [if_pos rfl, if_pos rfl]; have := outs_free hR hk h0; omega
        · rw [if_neg e, if_neg (by omega)]; exact this
      · unfold kidsL; rw [if_neg (by omega), e0, hs]; rfl
    · rcases hg.root with h | ⟨⟨n1, n2, n3⟩, _⟩
      · exact absurd h hn0
      obtain ⟨m, rfl⟩ : ∃ m : Nat, new = (m : Int) + 1 := ⟨(new - 1).toNat, by omega⟩
      have em : ((m : Int) + 1 - 1).toNat = m := by omega
      have hm : m < n := by omega
      have hm1 := hg.one hn0
      rw [em] at hm1
      have hmj : m ≠ j := fun e => by rw [e, h0] at hm1; omega
      have hcnt : 0 < (nodeB (l + 1) ks).kids.count ((m : Int) + 1) := List.count_pos_iff.2 (hin hn0)
      have hmr : 1 < (made D (nodeB (l + 1) ks) j m).refs := by
        rw [made_other _ _ hmj]; show 1 < (D m).refs + _; omega
      have hmo : outs n (made D (nodeB (l + 1) ks) j) m = outs n B m + 1 := by
        rw [hom m hm, if_neg hmj, hg.out m hm, if_pos rfl]
      have hBm := hg.fresh hn0
      rw [em] at hBm
      have hB0 := outs_free hB hm hBm
      obtain ⟨q1, q2, q3, q4, q5⟩ := less_right hM hm hmr (by omega)
      have hjs : lessOne (made D (nodeB (l + 1) ks) j) ((m : Int) + 1) j = { nodeB (l + 1) ks with refs := 1 } := by rw [q4 j (Ne.symm hmj), hs]
      refine ⟨⟨q1, (hg.ext.trans hE).trans q3, .inr ⟨⟨by omega, by omega, ?_⟩, ?_⟩, fun k hk => ?_, fun _ => by rw [e0]; exact hBj, fun _ => by rw [e0, hjs], fun k hk => Int.le_trans (q5 k) (hle k hk), by have := hg.used; have := used_mono (n := n) (fun k _ => q5 k); omega⟩, ?_, hE.trans q3⟩
      · rw [e0, hjs]; show (1 : Int) ≠ 0; omega
      · rw [e0, hjs]; rfl
      · rw [q2 k hk, hom k hk]
        have h3 := hg.out k hk
        by_cases e : k = j
        · subst e
          rw [if_pos rfl, if_neg (Ne.symm hmj), if_pos rfl]
          rw [if_neg (by omega)] at h3
          have := outs_free hR hk h0; omega
        · by_cases e' : k = m
          · subst e'
            rw [if_neg e, if_pos rfl, if_neg (by omega)]
            rw [if_pos rfl] at h3
            omega
          · rw [if_neg e, if_neg e', if_neg (by omega)]
            rw [if_neg (by omega)] at h3
            omega
      · unfold kidsL; rw [if_neg (by omega), e0, hjs]; rfl
end Go.Proofs.Ytaagnojdpedilac
