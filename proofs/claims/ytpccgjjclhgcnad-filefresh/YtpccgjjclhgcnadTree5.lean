/-
  What put makes, level by level: told without memory. Nothing here is trusted.
-/
import Derived.Test.YtpccgjjclhgcnadTree4
set_option linter.unusedVariables false
namespace Go.Proofs.Ytpccgjjclhgcnad
open Go.RowKit

/-- what put makes of a right store in which nothing is held more often than c -/
structure PutOk (n : Nat) (B : Nat → Blk) (l : Nat) (root : Int) (i : Nat) (bs : List Int) (c : Int) (C : Nat → Blk) (a : Int) : Prop where
  puts : Puts n bs l B root i C a
  grew : Grew n B C l a (c + 4 * (l + 1))
  leaf : ∀ j, j < pw l → leafAt C l a j = if j = i then bs else leafAt B l root j

theorem putOk_leaf {n : Nat} {B C : Nat → Blk} {root a c : Int} {i : Nat} {bs : List Int} (hR : Right n B) (h1 : 1 ≤ c) (hcm : c ≤ 999900) (hc : ∀ k, k < n → (B k).refs ≤ c) (hi : i < pw 0) (h : Leafed n B bs C a) : PutOk n B 0 root i bs c C a := by
  obtain ⟨hg, hb⟩ := leafed_grew hR h1 (by omega) hc h
  refine ⟨h, by simpa using hg, fun j hj => ?_⟩
  simp only [pw] at hi hj
  rw [if_pos (by omega)]
  exact hb

theorem leaf_form {n : Nat} {B : Nat → Blk} {bs : List Int} (h : bs.length = 4) : Form n B { leafB bs with refs := 1 } := .inr ⟨by simp [leafB], .inl ⟨rfl, rfl, h⟩⟩

theorem getD_set (l : List Int) (d : Nat) (x : Int) (q : Nat) (hd : d < l.length) : (l.set d x).getD q 0 = if q = d then x else l.getD q 0 := by
  simp only [List.getD_eq_getElem?_getD, List.getElem?_set]
  by_cases e : q = d
  · subst e; simp [hd]
  · rw [if_neg (fun h => e h.symm), if_neg e]

theorem node_form {n l : Nat} {B D : Nat → Blk} {root k c : Int} {d : Nat} (hl : l + 1 ≤ 3) (hR : Right n B) (hr : Root n B (l + 1) root) (hd : d < 4) (hg : Grew n B D l k c) (hz : (kidsL B root).set d k ≠ [0, 0, 0, 0]) : Form n D { nodeB (l + 1) ((kidsL B root).set d k) with refs := 1 } := by
  have h4 : ((kidsL B root).set d k).length = 4 := by rw [List.length_set, hr.len hR]
  refine .inr ⟨by simp [nodeB]; omega, .inr ⟨by simp [nodeB]; omega, h4, rfl, ?_, ?_⟩⟩
  · intro x hx
    have hroot : Root n D l x := by
      rcases List.mem_or_eq_of_mem_set hx with h | h
      · exact (hg.ext.root (hr.kid hR h)).1
      · subst h; exact hg.root
    rcases hroot with h | ⟨h, h'⟩
    · exact .inl h
    · exact .inr ⟨h, by rw [h']; simp [nodeB]⟩
  · show ∃ x ∈ (kidsL B root).set d k, x ≠ 0
    match hs : (kidsL B root).set d k, h4 with
    | [a, b, c', e], _ =>
      rw [hs] at hz
      by_cases ha : a = 0
      · by_cases hb : b = 0
        · by_cases hc : c' = 0
          · by_cases he : e = 0
            · subst ha; subst hb; subst hc; subst he; exact absurd rfl hz
            · exact ⟨e, by simp, he⟩
          · exact ⟨c', by simp, hc⟩
        · exact ⟨b, by simp, hb⟩
      · exact ⟨a, by simp, ha⟩

theorem putOk_next {n l : Nat} {B D C : Nat → Blk} {root k a c : Int} {i : Nat} {bs : List Int} (hl : l + 1 ≤ 3) (hR : Right n B) (h1 : 1 ≤ c) (hcm : c ≤ 999900) (hr : Root n B (l + 1) root) (hi : i < pw (l + 1))
    (hk : PutOk n B l ((kidsL B root).getD (i / pw l) 0) (i % pw l) bs c D k) (h : Above n D (l + 1) ((kidsL B root).set (i / pw l) k) k C a) : PutOk n B (l + 1) root i bs c C a := by
  have hp := pw_pos l
  have hd : i / pw l < 4 := by simp only [pw] at hi; exact Nat.div_lt_of_lt_mul (by rw [Nat.mul_comm]; exact hi)
  have hd' : i / pw l < (kidsL B root).length := by rw [hr.len hR]; exact hd
  obtain ⟨hg, hks, hE⟩ := above_grew hR hk.grew (by omega) (by omega) (fun _ => List.mem_iff_getElem.2 ⟨i / pw l, by simpa using hd', by simp⟩) h
  refine ⟨⟨D, k, hk.puts, h⟩, ?_, fun j hj => ?_⟩
  · have e : c + 4 * (((l + 1 : Nat) : Int) + 1) = c + 4 * ((l : Int) + 1) + 4 := by omega
    rw [e]; exact hg
  · have hdj : j / pw l < 4 := by simp only [pw] at hj; exact Nat.div_lt_of_lt_mul (by rw [Nat.mul_comm]; exact hj)
    have hm := Nat.mod_lt j hp
    simp only [leafAt]
    rw [hks, getD_set _ _ _ _ hd']
    by_cases e : j / pw l = i / pw l
    · rw [if_pos e, hE.leaf hk.grew.right l k hk.grew.root _ hm, hk.leaf _ hm]
      by_cases e2 : j % pw l = i % pw l
      · have : j = i := by rw [← Nat.div_add_mod j (pw l), ← Nat.div_add_mod i (pw l), e, e2]
        rw [if_pos e2, if_pos this]
      · have : j ≠ i := fun h => e2 (by rw [h])
        rw [if_neg e2, if_neg this, e]
    · have : j ≠ i := fun h => e (by rw [h])
      rw [if_neg e, if_neg this]
      exact hg.ext.leaf hR l _ (hr.kidAt hR hdj) _ hm

/-- four numbers -/
theorem four {l : List Int} (h : l.length = 4) : ∃ a b c d, l = [a, b, c, d] := by
  match l, h with
  | [a, b, c, d], _ => exact ⟨a, b, c, d, rfl⟩
theorem cells_set4 (k0 k1 k2 k3 x : Int) (d : Nat) (hd : d < 4) (l0 l1 l2 l3 : Int) (h : [k0, k1, k2, k3].set d x = [l0, l1, l2, l3]) :
    (#[Value.int .i64 k0, .int .i64 k1, .int .i64 k2, .int .i64 k3]).setIfInBounds d (.int .i64 x) = #[.int .i64 l0, .int .i64 l1, .int .i64 l2, .int .i64 l3] := by
  match d, hd with
  | 0, _ => simp at h; simp [h]
  | 1, _ => simp at h; simp [h]
  | 2, _ => simp at h; simp [h]
  | 3, _ => simp at h; simp [h]
theorem cell_at4 {w : World} {g : Nat} {k0 k1 k2 k3 : Int} {t : TypeId} (h : CellsAt w g #[.int .i64 k0, .int .i64 k1, .int .i64 k2, .int .i64 k3] t) (d : Nat) (hd : d < 4) : w.cell? ⟨g, d, none⟩ = some (.int .i64 ([k0, k1, k2, k3].getD d 0)) := by
  rw [h.cell]
  match d, hd with
  | 0, _ => rfl
  | 1, _ => rfl
  | 2, _ => rfl
  | 3, _ => rfl
end Go.Proofs.Ytpccgjjclhgcnad
