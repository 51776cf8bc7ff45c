/-
  What Seal and Open make of lists, and a row's beginning. Nothing here is trusted.
-/
import Derived.Test.YtjiodpggbmldnaaSealed
import Derived.OpenShut
set_option linter.unusedVariables false
namespace Go.Proofs.Ytjiodpggbmldnaa
open Go.RowKit

theorem bytesAt_nil (w : World) (a : Option Addr) : BytesAt w a 0 [] := ⟨rfl, by simp, fun h => absurd h (by omega)⟩

theorem bytesAt_row {w : World} {x : Addr} {len cap : Nat} {zs : List Int} (hl : len ≤ cap) (hz : zs.length = cap)
    (hc : ∀ i, i < zs.length → w.cell? (x.add i) = some (.int .u8 (zs.getD i 0))) (hw : ∀ n ∈ zs, (Lit.int .u8 n).wf = true) : BytesAt w (some x) len (zs.take len) := by
  refine ⟨by simp; omega, ?_, fun hn => ?_⟩
  · intro y hy
    have := hw y (List.mem_of_mem_take hy)
    have := bounds_u8 this
    omega
  · obtain ⟨b, off, spot⟩ := x
    have h0 := hc 0 (by omega)
    have hspot : spot = none := by simpa [Addr.add] using World.cell?_spot h0
    subst hspot
    have hb : b < w.heap.size := by
      rcases Nat.lt_or_ge b w.heap.size with h | h
      · exact h
      · have e : w.cell? ((⟨b, off, none⟩ : Addr).add 0) = none := by simp [World.cell?, Addr.add, Array.getElem?_eq_none h]
        rw [e] at h0
        simp at h0
    refine ⟨b, off, rfl, hb, fun i hi => ?_⟩
    have := hc i (by omega)
    have ea : (⟨b, off, none⟩ : Addr).add i = ⟨b, off + i, none⟩ := by unfold Addr.add; split <;> simp_all
    rw [ea] at this
    rw [this]
    simp [List.getD, hi]

theorem BytesAt.take {w : World} {a : Option Addr} {n : Nat} {l : List Int} (h : BytesAt w a n l) {k : Nat} (hk : k ≤ n) : BytesAt w a k (l.take k) := by
  refine ⟨by simp [h.1]; omega, fun y hy => h.2.1 y (List.mem_of_mem_take hy), fun hp => ?_⟩
  obtain ⟨b, off, rfl, hb, hc⟩ := h.2.2 (by omega)
  refine ⟨b, off, rfl, hb, fun i hi => ?_⟩
  rw [hc i (by omega)]
  simp [List.getD, hi]

theorem mixed_ext {f g : Int → Int → Int} {x y : Int} {l m : List Int} {n : Nat} (h : ∀ i, i < n → mixAt f x l i = mixAt g y m i) : mixed f x l n = mixed g y m n := by
  unfold mixed
  apply List.map_congr_left
  intro i hi
  simp at hi
  exact h i hi

theorem take_mixed (f : Int → Int → Int) (x : Int) (l : List Int) (n k : Nat) (hk : k ≤ n) : (mixed f x l n).take k = mixed f x (l.take k) k := by
  apply List.ext_getElem?
  intro i
  rw [List.getElem?_take]
  by_cases hi : i < k
  · have : i < n := by omega
    simp [mixed, hi, this, mixAt]
  · simp [mixed, hi]

theorem sealL_take (key at' : Int) (l : List Int) (k : Nat) (hk : k ≤ l.length) : sealL key at' (l.take k) = (sealL key at' l).take k := by
  unfold sealL
  rw [take_mixed _ _ _ _ _ hk]
  simp [Nat.min_eq_left hk]

theorem list_of_getD (l m : List Int) (h : l.length = m.length) (hi : ∀ i, i < l.length → l.getD i 0 = m.getD i 0) : l = m := by
  apply List.ext_getElem h
  intro i h1 h2
  have := hi i h1
  simpa [List.getD, h1, h2] using this

theorem sub_add8 (a b : Int) (h : 0 ≤ a ∧ a < 256) : sub8 (add8 a b) b = a := by unfold sub8 add8; omega
theorem add_sub8 (a b : Int) (h : 0 ≤ a ∧ a < 256) : add8 (sub8 a b) b = a := by unfold sub8 add8; omega

theorem open_sealL (key at' : Int) (l : List Int) (hl : ∀ x ∈ l, 0 ≤ x ∧ x < 256) : openL key at' (sealL key at' l) = l := by
  apply list_of_getD
  · rw [openL_length, sealL_length]
  · intro i hi
    rw [openL_length, sealL_length] at hi
    have hm : 0 ≤ l.getD i 0 ∧ l.getD i 0 < 256 := by
      have e : l.getD i 0 = l[i] := by simp [List.getD, hi]
      rw [e]; exact hl _ (List.getElem_mem hi)
    unfold openL
    rw [sealL_length, mixed_getD _ _ _ _ _ hi]
    unfold mixAt sealL
    rw [mixed_getD _ _ _ _ _ hi]
    unfold mixAt
    exact sub_add8 _ _ hm

theorem seal_openL (key at' : Int) (l : List Int) (hl : ∀ x ∈ l, 0 ≤ x ∧ x < 256) : sealL key at' (openL key at' l) = l := by
  apply list_of_getD
  · rw [sealL_length, openL_length]
  · intro i hi
    rw [sealL_length, openL_length] at hi
    have hm : 0 ≤ l.getD i 0 ∧ l.getD i 0 < 256 := by
      have e : l.getD i 0 = l[i] := by simp [List.getD, hi]
      rw [e]; exact hl _ (List.getElem_mem hi)
    unfold sealL
    rw [openL_length, mixed_getD _ _ _ _ _ hi]
    unfold mixAt openL
    rw [mixed_getD _ _ _ _ _ hi]
    unfold mixAt
    exact add_sub8 _ _ hm

end Go.Proofs.Ytjiodpggbmldnaa
