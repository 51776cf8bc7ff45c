/-
  What put makes, level by level: told without memory. Nothing here is trusted.
-/
import Derived.Test.YtaagnojdpedilacTree4
import Derived.Test.YtaagnojdpedilacClo
set_option linter.unusedVariables false
namespace Go.Proofs.Ytaagnojdpedilac
open Go.RowKit

/-- each new block above level 0 has a kid that is new, or 0 -/
def NewK (n : Nat) (B C : Nat → Blk) : Prop := ∀ k, k < n → (B k).refs = 0 → (C k).refs ≠ 0 → 1 ≤ (C k).level → ∃ x ∈ (C k).kids, x = 0 ∨ (B (x - 1).toNat).refs = 0
theorem newK_leaf {n : Nat} {B C : Nat → Blk} {bs : List Int} {a : Int} (h : Leafed n B bs C a) : NewK n B C := by
  intro k hk hb hc hl
  rcases h with ⟨_, rfl, _⟩ | ⟨_, j, _, _, _, rfl⟩
  · exact absurd hb hc
  · by_cases e : k = j
    · subst e
      rw [made_same] at hl
      have : (1 : Int) ≤ 0 := hl
      omega
    · rw [made_other _ _ e] at hc
      exact absurd (show (B k).refs + (((leafB bs).kids.count ((k : Int) + 1) : Nat) : Int) = 0 by rw [hb]; rfl) hc
theorem lessOne_kids (B : Nat → Blk) (a : Int) (k : Nat) : (lessOne B a k).kids = (B k).kids ∧ (lessOne B a k).level = (B k).level ∧ (a = 0 ∨ k ≠ (a - 1).toNat → lessOne B a k = B k) := by
  unfold lessOne
  by_cases h0 : a = 0
  · rw [if_pos h0]; exact ⟨rfl, rfl, fun _ => rfl⟩
  · rw [if_neg h0]
    by_cases e : k = (a - 1).toNat
    · subst e
      rw [upd_same]
      exact ⟨rfl, rfl, fun h => h.elim (fun h => absurd h h0) (fun h => absurd rfl h)⟩
    · rw [upd_other _ _ _ _ e]; exact ⟨rfl, rfl, fun _ => rfl⟩
theorem newK_next {n l : Nat} {B D C : Nat → Blk} {ks : List Int} {new a c : Int} (hg : Grew n B D l new c) (hk : NewK n B D) (hin : new ∈ ks) (h : Above n D (l + 1) ks new C a) : NewK n B C := by
  rcases h with ⟨_, rfl, _⟩ | ⟨_, j, ⟨_, _, _⟩, ⟨_, hF, _⟩, _, rfl⟩
  · exact hk
  intro k hkn hb hc hl
  obtain ⟨h1, h2, h3⟩ := lessOne_kids (made D (nodeB (l + 1) ks) j) new k
  rw [h1]
  rw [h2] at hl
  by_cases e : k = j
  · subst e
    rw [made_same]
    refine ⟨new, hin, ?_⟩
    by_cases h0 : new = 0
    · exact .inl h0
    · exact .inr (hg.fresh h0)
  · rw [made_other _ _ e] at hl ⊢
    refine hk k hkn hb (fun hd => hc ?_) hl
    by_cases h0 : new = 0 ∨ k ≠ (new - 1).toNat
    · rw [h3 h0, made_other _ _ e]
      show (D k).refs + _ = 0
      rw [hd, kid_free hF hd]; rfl
    · have hn0 : new ≠ 0 := fun h => h0 (.inl h)
      have hke : k = (new - 1).toNat := by
        by_cases e : k = (new - 1).toNat
        · exact e
        · exact absurd (.inr e) h0
      have := hg.one hn0
      rw [← hke, hd] at this
      omega

/-- new blocks' kids are 0, new, or were reached from r -/
def NewF (n : Nat) (B C : Nat → Blk) (r : Int) : Prop := ∀ k, k < n → (B k).refs = 0 → (C k).refs ≠ 0 → ∀ x ∈ (C k).kids, x = 0 ∨ (B (x - 1).toNat).refs = 0 ∨ Clo B [r] x
theorem newF_refl (n : Nat) (B : Nat → Blk) (r : Int) : NewF n B B r := fun k _ h1 h2 => absurd h1 h2
theorem newF_leaf {n : Nat} {B C : Nat → Blk} {bs : List Int} {a r : Int} (h : Leafed n B bs C a) : NewF n B C r := by
  intro k hk hb hc x hx
  rcases h with ⟨_, rfl, _⟩ | ⟨_, j, _, _, _, rfl⟩
  · exact absurd hb hc
  · by_cases e : k = j
    · subst e
      rw [made_same] at hx
      exact absurd hx (by simp [leafB])
    · rw [made_other _ _ e] at hc
      exact absurd (show (B k).refs + (((leafB bs).kids.count ((k : Int) + 1) : Nat) : Int) = 0 by rw [hb]; rfl) hc
/-- a kid of r, or 0 -/
theorem clo_kidsL {B : Nat → Blk} {r x : Int} (hx : x ∈ kidsL B r) (h0 : x ≠ 0) : Clo B [r] x := by
  unfold kidsL at hx
  by_cases hr : r = 0
  · rw [if_pos hr] at hx
    simp only [List.mem_cons, List.not_mem_nil, or_false] at hx
    omega
  · rw [if_neg hr] at hx
    exact (Clo.root (List.mem_singleton.2 rfl) hr).kid hx h0
theorem newF_mono {n : Nat} {B C : Nat → Blk} {q r : Int} (h : NewF n B C q) (hq : q ≠ 0 → Clo B [r] q) : NewF n B C r := fun k hk hb hc x hx => by
  rcases h k hk hb hc x hx with h | h | h
  · exact .inl h
  · exact .inr (.inl h)
  · exact .inr (.inr (h.mono fun s hs h0 => by
      rw [List.mem_singleton.1 hs] at h0 ⊢
      exact hq h0))
theorem newF_next {n l : Nat} {B D C : Nat → Blk} {ks : List Int} {new a c r : Int} (hg : Grew n B D l new c) (hk : NewF n B D r) (hin : ∀ x ∈ ks, x = new ∨ x = 0 ∨ Clo B [r] x) (h : Above n D (l + 1) ks new C a) : NewF n B C r := by
  rcases h with ⟨_, rfl, _⟩ | ⟨_, j, ⟨_, _, _⟩, ⟨_, hF, _⟩, _, rfl⟩
  · exact hk
  intro k hkn hb hc x hx
  obtain ⟨h1, h2, h3⟩ := lessOne_kids (made D (nodeB (l + 1) ks) j) new k
  rw [h1] at hx
  by_cases e : k = j
  · subst e
    rw [made_same] at hx
    rcases hin x hx with rfl | h | h
    · by_cases h0 : x = 0
      · exact .inl h0
      · exact .inr (.inl (hg.fresh h0))
    · exact .inl h
    · exact .inr (.inr h)
  · rw [made_other _ _ e] at hx
    refine hk k hkn hb (fun hd => hc ?_) x hx
    by_cases h0 : new = 0 ∨ k ≠ (new - 1).toNat
    · rw [h3 h0, made_other _ _ e]
      show (D k).refs + _ = 0
      rw [hd, kid_free hF hd]; rfl
    · have hn0 : new ≠ 0 := fun h => h0 (.inl h)
      have hke : k = (new - 1).toNat := by
        by_cases e : k = (new - 1).toNat
        · exact e
        · exact absurd (.inr e) h0
      have := hg.one hn0
      rw [← hke, hd] at this
      omega
/-- then what is reached from a new root was reached from the old one, or is new -/
theorem NewF.clo {n : Nat} {B C : Nat → Blk} {r a x : Int} (h : NewF n B C r) (hB : Right n B) (hr : RootsOk n B [r]) (hC : Right n C) (ha : RootsOk n C [a]) (hx : Ext n B C) (h0 : a = 0 ∨ (B (a - 1).toNat).refs = 0 ∨ Clo B [r] a) (hc : Clo C [a] x) : (B (x - 1).toNat).refs = 0 ∨ Clo B [r] x := by
  have key : There n C x ∧ ((B (x - 1).toNat).refs = 0 ∨ Clo B [r] x) := by
    refine hc (fun y => There n C y ∧ ((B (y - 1).toNat).refs = 0 ∨ Clo B [r] y)) (fun s hs hs0 => ?_) (fun y hy k hk hk0 => ?_)
    · rw [List.mem_singleton.1 hs] at hs0 ⊢
      exact ⟨(ha a (List.mem_singleton.2 rfl)).resolve_left hs0, h0.resolve_left hs0⟩
    · obtain ⟨hyt, hy⟩ := hy
      have hkt : There n C k := by
        rcases (hC.one _ (ix hyt.1 hyt.2.1).1).kids k hk with h | ⟨h, _⟩
        · exact absurd h hk0
        · exact h
      refine ⟨hkt, ?_⟩
      by_cases hf : (B (y - 1).toNat).refs = 0
      · rcases h _ (ix hyt.1 hyt.2.1).1 hf hyt.2.2 k hk with h | h | h
        · exact absurd h hk0
        · exact .inl h
        · exact .inr h
      · have hcy := hy.resolve_left hf
        have := (hx.keep _ (ix hyt.1 hyt.2.1).1 hf).2.2.1
        rw [this] at hk
        exact .inr (hcy.kid hk hk0)
  exact key.2

/-- what put makes of a right store in which nothing is held more often than c -/
structure PutOk (n : Nat) (B : Nat → Blk) (l : Nat) (root : Int) (i : Nat) (bs : List Int) (c : Int) (C : Nat → Blk) (a : Int) : Prop where
  puts : Puts n bs l B root i C a
  grew : Grew n B C l a (c + 4 * (l + 1))
  leaf : ∀ j, j < pw l → leafAt C l a j = if j = i then bs else leafAt B l root j
  newk : NewK n B C
  newf : NewF n B C root

theorem putOk_leaf {n : Nat} {B C : Nat → Blk} {root a c : Int} {i : Nat} {bs : List Int} (hR : Right n B) (h1 : 1 ≤ c) (hcm : c ≤ 999984) (hc : ∀ k, k < n → (B k).refs ≤ c) (hi : i < pw 0) (h : Leafed n B bs C a) : PutOk n B 0 root i bs c C a := by
  obtain ⟨hg, hb⟩ := leafed_grew hR h1 (by omega) hc h
  refine ⟨h, by simpa using hg, fun j hj => ?_, newK_leaf h, newF_leaf h⟩
  simp only [pw] at hi hj
  rw [if_pos (by omega)]
  exact hb

theorem leaf_form {n : Nat} {B : Nat → Blk} {bs : List Int} (h : bs.length = 4) : Form n B { leafB bs with refs := 1 } := .inr ⟨by simp [leafB], .inl ⟨rfl, rfl, h⟩⟩

theorem getD_set (l : List Int) (d : Nat) (x : Int) (q : Nat) (hd : d < l.length) : (l.set d x).getD q 0 = if q = d then x else l.getD q 0 := by
  simp only [List.getD_eq_getElem?_getD, List.getElem?_set]
  by_cases e : q = d
  · subst e; simp [hd]
  · rw [if_neg (fun h => e h.symm), if_neg e]

theorem node_form {n l : Nat} {B D : Nat → Blk} {root k c : Int} {d : Nat} (hl : l + 1 ≤ 3) (hR : Right n B) (hr : Root n B (l + 1) root) (hd : d < 4) (hg : Grew n B D l k c) (hz : (kidsL B root).set d k ≠ [0, 0, 0, 0]) : Form n D { nodeB (l + 1) ((kidsL B root).set d k) with refs := 1 } := by
  have h4 : ((kidsL B root).set d k).length = 4 := by rw [List.length_set, hr.len hR]
  refine .inr ⟨by simp [nodeB]; omega, .inr ⟨by simp [nodeB]; omega, h4, rfl, ?_, ?_⟩⟩
  · intro x hx
    have hroot : Root n D l x := by
      rcases List.mem_or_eq_of_mem_set hx with h | h
      · exact (hg.ext.root (hr.kid hR h)).1
      · subst h; exact hg.root
    rcases hroot with h | ⟨h, h'⟩
    · exact .inl h
    · exact .inr ⟨h, by rw [h']; simp [nodeB]⟩
  · show ∃ x ∈ (kidsL B root).set d k, x ≠ 0
    match hs : (kidsL B root).set d k, h4 with
    | [a, b, c', e], _ =>
      rw [hs] at hz
      by_cases ha : a = 0
      · by_cases hb : b = 0
        · by_cases hc : c' = 0
          · by_cases he : e = 0
            · subst ha; subst hb; subst hc; subst he; exact absurd rfl hz
            · exact ⟨e, by simp, he⟩
          · exact ⟨c', by simp, hc⟩
        · exact ⟨b, by simp, hb⟩
      · exact ⟨a, by simp, ha⟩

theorem putOk_next {n l : Nat} {B D C : Nat → Blk} {root k a c : Int} {i : Nat} {bs : List Int} (hl : l + 1 ≤ 3) (hR : Right n B) (h1 : 1 ≤ c) (hcm : c ≤ 999984) (hr : Root n B (l + 1) root) (hi : i < pw (l + 1))
    (hk : PutOk n B l ((kidsL B root).getD (i / pw l) 0) (i % pw l) bs c D k) (h : Above n D (l + 1) ((kidsL B root).set (i / pw l) k) k C a) : PutOk n B (l + 1) root i bs c C a := by
  have hp := pw_pos l
  have hd : i / pw l < 4 := by simp only [pw] at hi; exact Nat.div_lt_of_lt_mul (by rw [Nat.mul_comm]; exact hi)
  have hd' : i / pw l < (kidsL B root).length := by rw [hr.len hR]; exact hd
  obtain ⟨hg, hks, hE⟩ := above_grew hR hk.grew (by omega) (by omega) (fun _ => List.mem_iff_getElem.2 ⟨i / pw l, by simpa using hd', by simp⟩) h
  refine ⟨⟨D, k, hk.puts, h⟩, ?_, fun j hj => ?_, newK_next hk.grew hk.newk (List.mem_iff_getElem.2 ⟨i / pw l, by simpa using hd', by simp⟩) h, newF_next hk.grew (newF_mono hk.newf fun h0 => clo_kidsL (getD_mem hd') h0) (fun x hx => ?_) h⟩
  rotate_left 2
  · rcases List.mem_or_eq_of_mem_set hx with h | h
    · by_cases h0 : x = 0
      · exact .inr (.inl h0)
      · exact .inr (.inr (clo_kidsL h h0))
    · exact .inl h
  · have e : c + 4 * (((l + 1 : Nat) : Int) + 1) = c + 4 * ((l : Int) + 1) + 4 := by omega
    rw [e]; exact hg
  · have hdj : j / pw l < 4 := by simp only [pw] at hj; exact Nat.div_lt_of_lt_mul (by rw [Nat.mul_comm]; exact hj)
    have hm := Nat.mod_lt j hp
    simp only [leafAt]
    rw [hks, getD_set _ _ _ _ hd']
    by_cases e : j / pw l = i / pw l
    · rw [if_pos e, hE.leaf hk.grew.right l k hk.grew.root _ hm, hk.leaf _ hm]
      by_cases e2 : j % pw l = i % pw l
      · have : j = i := by rw [← Nat.div_add_mod j (pw l), ← Nat.div_add_mod i (pw l), e, e2]
        rw [if_pos e2, if_pos this]
      · have : j ≠ i := fun h => e2 (by rw [h])
        rw [if_neg e2, if_neg this, e]
    · have : j ≠ i := fun h => e (by rw [h])
      rw [if_neg e, if_neg this]
      exact hg.ext.leaf hR l _ (hr.kidAt hR hdj) _ hm

/-- what is reached from the root that was put was reached from the old one, or is new -/
theorem PutOk.from' {n : Nat} {B C : Nat → Blk} {l : Nat} {root a c x : Int} {i : Nat} {bs : List Int} (h : PutOk n B l root i bs c C a) (hB : Right n B) (hr : Root n B l root) (hc : Clo C [a] x) : (B (x - 1).toNat).refs = 0 ∨ Clo B [root] x := by
  refine h.newf.clo hB (fun r hr' => ?_) h.grew.right (fun r hr' => ?_) h.grew.ext ?_ hc
  · rw [List.mem_singleton.1 hr']
    exact hr.imp id (fun h => h.1)
  · rw [List.mem_singleton.1 hr']
    exact h.grew.root.imp id (fun h => h.1)
  · by_cases h0 : a = 0
    · exact .inl h0
    · exact .inr (.inl (h.grew.fresh h0))

/-- four numbers -/
theorem four {l : List Int} (h : l.length = 4) : ∃ a b c d, l = [a, b, c, d] := by
  match l, h with
  | [a, b, c, d], _ => exact ⟨a, b, c, d, rfl⟩
theorem cells_set4 (k0 k1 k2 k3 x : Int) (d : Nat) (hd : d < 4) (l0 l1 l2 l3 : Int) (h : [k0, k1, k2, k3].set d x = [l0, l1, l2, l3]) :
    (#[Value.int .i64 k0, .int .i64 k1, .int .i64 k2, .int .i64 k3]).setIfInBounds d (.int .i64 x) = #[.int .i64 l0, .int .i64 l1, .int .i64 l2, .int .i64 l3] := by
  match d, hd with
  | 0, _ => simp at h; simp [h]
  | 1, _ => simp at h; simp [h]
  | 2, _ => simp at h; simp [h]
  | 3, _ => simp at h; simp [h]
theorem cell_at4 {w : World} {g : Nat} {k0 k1 k2 k3 : Int} {t : TypeId} (h : CellsAt w g #[.int .i64 k0, .int .i64 k1, .int .i64 k2, .int .i64 k3] t) (d : Nat) (hd : d < 4) : w.cell? ⟨g, d, none⟩ = some (.int .i64 ([k0, k1, k2, k3].getD d 0)) := by
  rw [h.cell]
  match d, hd with
  | 0, _ => rfl
  | 1, _ => rfl
  | 2, _ => rfl
  | 3, _ => rfl
end Go.Proofs.Ytaagnojdpedilac
