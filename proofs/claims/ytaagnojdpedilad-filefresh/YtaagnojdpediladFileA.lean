/-
  How often blocks are held behind a Put, block by block; what stays behind a Drop; a root that is held besides. Without memory. Nothing here is trusted.
-/
import Derived.Test.YtaagnojdpediladFew
set_option linter.unusedVariables false
namespace Go.Proofs.Ytaagnojdpedilad

/-- behind a Drop all that was there ahead of it all is there, if all who held it outside do still -/
theorem stay_all {n : Nat} {B D E : Nat → Blk} {T : List Int} (hB : Right n B) (hE : Right n E) (hx : Ext n B D) (hF : Fell n D E T) (ho : ∀ k, k < n → outs n B k ≤ outs n E k) : Ext n B E := by
  have hl : ∀ k : Nat, k < n → 0 < outs n B k → ((k : Int) + 1) ∈ ((List.range n).filter (fun k => decide (0 < outs n B k))).map (fun k : Nat => (k : Int) + 1) := fun k hk h =>
    List.mem_map.2 ⟨k, List.mem_filter.2 ⟨List.mem_range.2 hk, decide_eq_true h⟩, rfl⟩
  refine ⟨fun i hi h0 => ?_⟩
  have hc := all_reached hB hl i hi h0
  have key := hc (fun y => There n B y ∧ There n E y) (fun r hr h0' => by
    obtain ⟨k, hk, rfl⟩ := List.mem_map.1 hr
    have hkn := List.mem_range.1 (List.mem_filter.1 hk).1
    have hko := of_decide_eq_true (List.mem_filter.1 hk).2
    have hkE := ho k hkn
    have e : ((k : Int) + 1 - 1).toNat = k := by omega
    unfold outs at hko hkE
    refine ⟨⟨by omega, by omega, ?_⟩, ⟨by omega, by omega, ?_⟩⟩
    · rw [e]; omega
    · rw [e]; omega) (fun y ⟨hy, hyE⟩ k hk hk0 => by
    have hkB : There n B k := by
      rcases (hB.one _ (ix hy.1 hy.2.1).1).kids k hk with h | ⟨h, _⟩
      · exact absurd h hk0
      · exact h
    refine ⟨hkB, ?_⟩
    have h1 := (fell_content hF hyE).2.1
    have h2 := (hx.keep _ (ix hy.1 hy.2.1).1 hy.2.2).2.2.1
    rw [← h2, ← h1] at hk
    rcases (hE.one _ (ix hyE.1 hyE.2.1).1).kids k hk with h | ⟨h, _⟩
    · exact absurd h hk0
    · exact h)
  have hiE := key.2
  obtain ⟨c1, c2, c3⟩ := fell_content hF hiE
  have e : ((i : Int) + 1 - 1).toNat = i := by omega
  rw [e] at c1 c2 c3
  have hne := hiE.2.2
  rw [e] at hne
  obtain ⟨_, d1, d2, d3⟩ := hx.keep i hi h0
  exact ⟨hne, c1.trans d1, c2.trans d2, c3.trans d3⟩

theorem leaf_behind {n : Nat} {D E : Nat → Blk} {T : List Int} (hD : Right n D) (hE : Right n E) (hF : Fell n D E T) : ∀ (l : Nat) (a : Int), Root n D l a → (a = 0 ∨ There n E a) → Root n E l a ∧ ∀ i, i < pw l → leafAt E l a i = leafAt D l a i
  | l, a, hr, .inl h0 => by
    subst h0
    exact ⟨.inl rfl, fun i hi => by rw [leafAt_zero _ _ _ hi, leafAt_zero _ _ _ hi]⟩
  | 0, a, hr, .inr ht => by
    obtain ⟨c1, c2, c3⟩ := fell_content hF ht
    have h1 := ht.1
    refine ⟨?_, fun i _ => ?_⟩
    · rcases hr with h | ⟨_, h⟩
      · exact .inl h
      · exact .inr ⟨ht, c1.trans h⟩
    · simp only [leafAt, bytesL]
      rw [if_neg (by omega), if_neg (by omega), c3]
  | l + 1, a, hr, .inr ht => by
    obtain ⟨c1, c2, c3⟩ := fell_content hF ht
    have h1 := ht.1
    have hrE : Root n E (l + 1) a := by
      rcases hr with h | ⟨_, h⟩
      · exact .inl h
      · exact .inr ⟨ht, c1.trans h⟩
    have hk : kidsL E a = kidsL D a := by unfold kidsL; rw [if_neg (by omega), if_neg (by omega), c2]
    refine ⟨hrE, fun i hi => ?_⟩
    have hp := pw_pos l
    have hd : i / pw l < 4 := by simp only [pw] at hi; exact Nat.div_lt_of_lt_mul (by rw [Nat.mul_comm]; exact hi)
    simp only [leafAt]
    rw [hk]
    have hrk := hrE.kidAt hE hd
    rw [hk] at hrk
    exact (leaf_behind hD hE hF l _ (hr.kidAt hD hd) (hrk.imp id (·.1))).2 _ (Nat.mod_lt _ hp)

/-- C is B where the root a is held besides; nothing is held more often than c -/
structure Turned (n : Nat) (B C : Nat → Blk) (a : Int) (c : Int) : Prop where
  right : Right n C
  ext : Ext n B C
  root : Root n C 3 a
  out : ∀ k, k < n → outs n C k = outs n B k + if (k : Int) + 1 = a then 1 else 0
  few : ∀ k, k < n → (C k).refs ≤ c
  newk : NewK n B C

theorem newK_refl (n : Nat) (B : Nat → Blk) : NewK n B B := fun k _ h1 h2 _ => absurd h1 h2
theorem newK_trans {n : Nat} {B C D : Nat → Blk} (hx : Ext n B C) (hy : Ext n C D) (hD : Right n D) (h1 : NewK n B C) (h2 : NewK n C D) : NewK n B D := by
  intro k hk hb hd hl
  by_cases hc : (C k).refs = 0
  · obtain ⟨x, hxk, hor⟩ := h2 k hk hc hd hl
    refine ⟨x, hxk, hor.imp id fun hcx => ?_⟩
    rcases (hD.one k hk).kids x hxk with h0 | ⟨⟨g1, g2, _⟩, _⟩
    · subst h0
      exact Classical.byContradiction fun hne => by
        by_cases hn : (0 - 1 : Int).toNat < n
        · exact (hx.keep _ hn hne).1 hcx
        · exact absurd (show (0 - 1 : Int).toNat < n by simp; omega) hn
    · exact Classical.byContradiction fun hne => (hx.keep _ (by omega) hne).1 hcx
  · obtain ⟨_, g2, g3, _⟩ := hy.keep k hk hc
    rw [g3]
    exact h1 k hk hb hc (by rw [← g2]; exact hl)
theorem newK_fell {n : Nat} {B D E : Nat → Blk} {T : List Int} (hF : Fell n D E T) (h : NewK n B D) : NewK n B E := by
  intro k hk hb he hl
  have e0 : ((k : Int) + 1 - 1).toNat = k := by omega
  have hc := fell_content hF (x := (k : Int) + 1) ⟨by omega, by omega, by rw [e0]; exact he⟩
  rw [e0] at hc
  have hd : (D k).refs ≠ 0 := by
    rcases hF.same k hk with e | ⟨h1, h2, _⟩
    · exact absurd (by rw [e]; rfl) he
    · intro h0; omega
  rw [hc.2.1]
  exact h k hk hb hd (by rw [← hc.1]; exact hl)

theorem right_kept9 {n : Nat} {B : Nat → Blk} {i : Nat} (hR : Right n B) (hi : i < n) (h0 : (B i).refs ≠ 0) (hm : (B i).refs ≤ 999999) : Right n (keptB B ((i : Int) + 1)) := by
  have hth : ∀ x, There n B x → There n (keptB B ((i : Int) + 1)) x ∧ (keptB B ((i : Int) + 1) (x - 1).toNat).level = (B (x - 1).toNat).level := by
    intro x ⟨x1, x2, x3⟩
    by_cases e : (x - 1).toNat = i
    · have hb := (hR.one i hi).bounds
      rw [e, kept_same]
      refine ⟨⟨x1, x2, ?_⟩, rfl⟩
      rw [e, kept_same]
      show (B i).refs + 1 ≠ 0
      omega
    · rw [kept_other e]
      exact ⟨⟨x1, x2, by rw [kept_other e]; exact x3⟩, rfl⟩
  refine ⟨hR.small, fun k hk => ?_, fun k hk => ?_, by simp⟩
  · by_cases e : k = i
    · subst e
      rw [kept_same]
      have hb := (hR.one k hk).bounds
      exact (hR.one k hk).turn rfl rfl rfl (.inr ⟨h0, by show 1 ≤ (B k).refs + 1; omega, by show (B k).refs + 1 ≤ 1000000; omega⟩) fun x _ => hth x
    · rw [kept_other e]
      exact (hR.one k hk).turn rfl rfl rfl (.inl rfl) fun x _ => hth x
  · rw [among_kept]
    have h1 := hR.held k hk
    simp at h1 ⊢
    by_cases e : k = i
    · subst e; rw [kept_same]; show _ ≤ (B k).refs + 1; omega
    · rw [kept_other e]; exact h1

theorem turned_zero {n : Nat} {B : Nat → Blk} {c : Int} (hR : Right n B) (hc : ∀ k, k < n → (B k).refs ≤ c) : Turned n B B 0 c :=
  ⟨hR, Ext.refl _ _, .inl rfl, fun k _ => by rw [if_neg (by omega)]; omega, hc, newK_refl _ _⟩
theorem turned_kept {n : Nat} {B : Nat → Blk} {i : Nat} {c : Int} (hR : Right n B) (hr : Root n B 3 ((i : Int) + 1)) (hcm : c ≤ 999999) (hc : ∀ k, k < n → (B k).refs ≤ c) : Turned n B (keptB B ((i : Int) + 1)) ((i : Int) + 1) (c + 1) := by
  rcases hr with h | ⟨⟨h1, h2, h3⟩, hl⟩
  · omega
  have e : ((i : Int) + 1 - 1).toNat = i := by omega
  rw [e] at h3 hl
  have hi : i < n := by omega
  have hR' := right_kept9 hR hi h3 (by have := hc i hi; omega)
  have hx : Ext n B (keptB B ((i : Int) + 1)) := ⟨fun k hk h0 => by
    by_cases ek : k = i
    · subst ek
      have hb := (hR.one k hk).bounds
      rw [kept_same]
      exact ⟨by show (B k).refs + 1 ≠ 0; omega, rfl, rfl, rfl⟩
    · rw [kept_other ek]; exact ⟨h0, rfl, rfl, rfl⟩⟩
  refine ⟨hR', hx, ?_, fun k hk => ?_, fun k hk => ?_, fun k hk hb hc' _ => ?_⟩
  · exact (hx.root (a := (i : Int) + 1) (l := 3) (.inr ⟨⟨h1, h2, by rw [e]; exact h3⟩, by rw [e]; exact hl⟩)).1
  · rw [outs_kept]
    by_cases ek : k = i
    · subst ek; rw [if_pos rfl, if_pos rfl]
    · rw [if_neg ek, if_neg (by omega)]; omega
  · have := hc k hk
    by_cases ek : k = i
    · subst ek; rw [kept_same]; show (B k).refs + 1 ≤ _; omega
    · rw [kept_other ek]; omega
  · by_cases ek : k = i
    · subst ek; exact absurd hb h3
    · rw [kept_other ek] at hc'; exact absurd hb hc'

/-- one more Put, and what was made ahead of it is let go -/
theorem Turned.put {n : Nat} {B C D : Nat → Blk} {a a' c c' : Int} {i : Nat} {bs : List Int} (hB : Right n B) (h : Turned n B C a c) (hp : PutOk n C 3 a i bs c' D a') :
    Ext n B D ∧ Right n D ∧ Root n D 3 a' ∧ (∀ k, k < n → outs n D k = outs n B k + (if (k : Int) + 1 = a then 1 else 0) + (if (k : Int) + 1 = a' then 1 else 0)) ∧ NewK n B D ∧ (a ≠ 0 → a ≠ a') :=
  ⟨h.ext.trans hp.grew.ext, hp.grew.right, hp.grew.root, fun k hk => by rw [hp.grew.out k hk, h.out k hk], newK_trans h.ext hp.grew.ext hp.grew.right h.newk hp.newk, fun h0 e => by
    rcases h.root with hr | ⟨⟨_, _, hr⟩, _⟩
    · exact h0 hr
    · exact hr (by rw [e]; exact hp.grew.fresh (e ▸ h0))⟩
theorem Turned.put0 {n : Nat} {B C D : Nat → Blk} {a' c c' cc : Int} {i : Nat} {bs : List Int} (hB : Right n B) (h : Turned n B C 0 c) (h64 : 64 ≤ cc) (hc : ∀ k, k < n → (B k).refs ≤ cc) (hp : PutOk n C 3 0 i bs c' D a') : Turned n B D a' (cc + 48) := by
  obtain ⟨p1, p2, p3, p4, p5, _⟩ := h.put hB hp
  have ho : ∀ k, k < n → outs n D k = outs n B k + if (k : Int) + 1 = a' then 1 else 0 := fun k hk => by rw [p4 k hk, if_neg (by omega)]; omega
  exact ⟨p2, p1, p3, ho, few48 ⟨hB, p2, p1, p3, ho⟩ p5 h64 hc, p5⟩
theorem Turned.droppable {n : Nat} {B C D : Nat → Blk} {m : Nat} {a' c c' : Int} {i : Nat} {bs : List Int} (hB : Right n B) (h : Turned n B C ((m : Int) + 1) c) (hp : PutOk n C 3 ((m : Int) + 1) i bs c' D a') : Droppable n D ((m : Int) + 1) := by
  obtain ⟨p1, p2, p3, p4, p5, _⟩ := h.put hB hp
  rcases h.root with hr | ⟨⟨r1, r2, _⟩, _⟩
  · omega
  have hm : m < n := by omega
  refine droppable_of p2 hm ?_
  rw [p4 m hm, if_pos rfl]
  have := outs_nonneg hB m hm
  split <;> omega
theorem Turned.drop {n : Nat} {B C D E : Nat → Blk} {m : Nat} {a' c c' cc : Int} {i : Nat} {bs : List Int} (hB : Right n B) (h : Turned n B C ((m : Int) + 1) c) (h64 : 64 ≤ cc) (hc : ∀ k, k < n → (B k).refs ≤ cc) (hp : PutOk n C 3 ((m : Int) + 1) i bs c' D a') (hE : Right n E) (hF : Fell n D E [(m : Int) + 1]) :
    Turned n B E a' (cc + 48) ∧ (∀ j, j < pw 3 → leafAt E 3 a' j = leafAt D 3 a' j) ∧ usedTo E n ≤ usedTo D n := by
  obtain ⟨p1, p2, p3, p4, p5, p6⟩ := h.put hB hp
  have ho : ∀ k, k < n → outs n E k = outs n B k + if (k : Int) + 1 = a' then 1 else 0 := fun k hk => by
    rw [hF.outs k hk, p4 k hk]
    by_cases e : k = m
    · subst e; rw [List.count_cons_self, if_pos rfl]; simp; omega
    · rw [List.count_cons_of_ne (by omega), if_neg (by omega)]; simp
  have hx := stay_all hB hE p1 hF (fun k hk => by rw [ho k hk]; split <;> omega)
  have hle : ∀ k, k < n → (E k).refs ≤ (D k).refs := fun k hk => by
    rcases hF.same k hk with e | ⟨_, e, _⟩
    · have := (p2.one k hk).bounds
      rw [e]; show (0 : Int) ≤ _; omega
    · exact e
  have ht : a' = 0 ∨ There n E a' := by
    rcases p3 with h0 | ⟨⟨r1, r2, r3⟩, _⟩
    · exact .inl h0
    · obtain ⟨q, rfl⟩ : ∃ q : Nat, a' = (q : Int) + 1 := ⟨(a' - 1).toNat, by omega⟩
      have hq : q < n := by omega
      have hoq := ho q hq
      rw [if_pos rfl] at hoq
      have := outs_nonneg hB q hq
      refine .inr ⟨r1, r2, ?_⟩
      rw [show ((q : Int) + 1 - 1).toNat = q by omega]
      unfold outs at hoq this
      omega
  obtain ⟨q1, q2⟩ := leaf_behind p2 hE hF 3 a' p3 ht
  have hn := newK_fell hF p5
  exact ⟨⟨hE, hx, q1, ho, few48 ⟨hB, hE, hx, q1, ho⟩ hn h64 hc, hn⟩, q2, used_mono hle⟩

/-- let go, the root that was held besides never was -/
theorem Turned.none {n : Nat} {B C : Nat → Blk} {c : Int} (hB : Right n B) (h : Turned n B C 0 c) : ∀ k, k < n → C k = B k :=
  same_of h.right hB (keeps_like hB h.ext) fun k hk => by rw [h.out k hk, if_neg (by omega)]; omega
theorem Turned.back {n : Nat} {B C D : Nat → Blk} {m : Nat} {c : Int} (hB : Right n B) (h : Turned n B C ((m : Int) + 1) c) (hD : Right n D) (hF : Fell n C D [(m : Int) + 1]) : ∀ k, k < n → D k = B k := by
  refine same_of hD hB (fun k hk => ?_) fun k hk => ?_
  · rcases fell_like hF k hk with h' | h' | ⟨h1, h2, h3⟩
    · exact .inl h'
    · by_cases e : (B k).refs = 0
      · exact .inr (.inl e)
      · exact absurd h' (h.ext.keep k hk e).1
    · rcases keeps_like hB h.ext k hk with h' | h' | ⟨g1, g2, g3⟩
      · by_cases e : (B k).refs = 0
        · exact .inr (.inl e)
        · exact absurd h' (h.ext.keep k hk e).1
      · exact .inr (.inl h')
      · exact .inr (.inr ⟨h1.trans g1, h2.trans g2, h3.trans g3⟩)
  · rw [hF.outs k hk, h.out k hk]
    by_cases e : k = m
    · subst e
      rw [if_pos rfl, List.count_cons_self]
      simp
    · rw [if_neg (by omega), List.count_cons_of_ne (by omega)]
      simp
theorem Turned.droppable_end {n : Nat} {B C : Nat → Blk} {m : Nat} {c : Int} (hB : Right n B) (h : Turned n B C ((m : Int) + 1) c) : Droppable n C ((m : Int) + 1) := by
  rcases h.root with hr | ⟨⟨r1, r2, _⟩, _⟩
  · omega
  have hm : m < n := by omega
  refine droppable_of h.right hm ?_
  rw [h.out m hm, if_pos rfl]
  have := outs_nonneg hB m hm
  omega
theorem used_kept {n : Nat} {B : Nat → Blk} {i : Nat} (hR : Right n B) (h0 : (B i).refs ≠ 0) : usedTo (keptB B ((i : Int) + 1)) n ≤ usedTo B n := by
  have key : ∀ m, m ≤ n → usedTo (keptB B ((i : Int) + 1)) m ≤ usedTo B m := by
    intro m
    induction m with
    | zero => intro _; exact Nat.le_refl _
    | succ m ih =>
      intro hm
      have hb := (hR.one m (by omega)).bounds
      have h1 := ih (by omega)
      rw [usedTo_succ, usedTo_succ]
      by_cases e : m = i
      · subst e
        rw [if_pos (show 0 < (B m).refs by omega)]
        split <;> omega
      · rw [kept_other e]; omega
  exact key n (Nat.le_refl _)
/-- a root that is there has a leaf -/
theorem root_leaf {n : Nat} {B : Nat → Blk} (hR : Right n B) : ∀ (l : Nat) (a : Int), Root n B l a → a ≠ 0 → ∃ i, i < pw l ∧ leafAt B l a i ≠ []
  | 0, a, hr, h0 => ⟨0, by simp [pw], fun h => by
    have h1 := hr.leaf hR
    rw [if_neg h0] at h1
    simp only [leafAt] at h
    rw [h] at h1
    simp at h1⟩
  | l + 1, a, hr, h0 => by
    have h4 := hr.len hR
    have hk : ∃ x ∈ kidsL B a, x ≠ 0 := by
      rcases hr with h | ⟨⟨h1, h2, h3⟩, hl⟩
      · exact absurd h h0
      · unfold kidsL
        rw [if_neg h0]
        rcases hR.one _ (ix h1 h2).1 with ⟨h, _⟩ | ⟨_, ⟨h, _⟩ | ⟨_, _, _, _, h⟩⟩
        · exact absurd h h3
        · omega
        · exact h
    obtain ⟨x, hx, hx0⟩ := hk
    obtain ⟨j, hj, e⟩ := List.mem_iff_getElem.1 hx
    obtain ⟨i, hi, hne⟩ := root_leaf hR l x (hr.kid hR hx) hx0
    have hp := pw_pos l
    have e1 : (j * pw l + i) / pw l = j := by rw [Nat.add_comm, Nat.add_mul_div_right _ _ hp, Nat.div_eq_of_lt hi]; omega
    have e2 : (j * pw l + i) % pw l = i := by rw [Nat.add_comm, Nat.add_mul_mod_self_right, Nat.mod_eq_of_lt hi]
    refine ⟨j * pw l + i, ?_, ?_⟩
    · have : (j + 1) * pw l ≤ 4 * pw l := Nat.mul_le_mul_right _ (by omega)
      rw [Nat.add_mul] at this
      simp only [pw]
      omega
    · simp only [leafAt]
      rw [e1, e2]
      have e3 : (kidsL B a).getD j 0 = x := by simp [List.getD, hj, e]
      rw [e3]
      exact hne
theorem leafAt_04 {n : Nat} {B : Nat → Blk} (hR : Right n B) : ∀ (l : Nat) (a : Int), Root n B l a → ∀ i, i < pw l → leafAt B l a i = [] ∨ (leafAt B l a i).length = 4
  | 0, a, ha, i, _ => by
    have h := ha.leaf hR
    simp only [leafAt]
    by_cases e : a = 0
    · rw [if_pos e] at h; exact .inl (List.eq_nil_of_length_eq_zero h)
    · rw [if_neg e] at h; exact .inr h
  | l + 1, a, ha, i, hi => by
    have hp := pw_pos l
    have hd : i / pw l < 4 := by simp only [pw] at hi; exact Nat.div_lt_of_lt_mul (by rw [Nat.mul_comm]; exact hi)
    simp only [leafAt]
    exact leafAt_04 hR l _ (ha.kidAt hR hd) _ (Nat.mod_lt _ hp)
end Go.Proofs.Ytaagnojdpedilad
