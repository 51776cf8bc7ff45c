/-
  How often a block can be held more behind the turning of a file: by 48 at most. Without memory. Nothing here is trusted.
-/
import Derived.Test.YtaagnojdpediladTreeD
import Derived.Test.YtaagnojdpediladSto4
set_option linter.unusedVariables false
namespace Go.Proofs.Ytaagnojdpedilad

theorem sumTo_le {f g : Nat → Nat} : ∀ {n : Nat}, (∀ i, i < n → f i ≤ g i) → sumTo f n ≤ sumTo g n
  | 0, _ => Nat.le_refl _
  | n + 1, h => Nat.add_le_add (sumTo_le fun i hi => h i (by omega)) (h n (by omega))
theorem sumTo_add {f g : Nat → Nat} : ∀ {n : Nat}, sumTo (fun i => f i + g i) n = sumTo f n + sumTo g n
  | 0 => rfl
  | n + 1 => by
    have := sumTo_add (f := f) (g := g) (n := n)
    simp only [sumTo]
    omega
theorem sumTo_mul {f : Nat → Nat} (c : Nat) : ∀ {n : Nat}, sumTo (fun i => c * f i) n = c * sumTo f n
  | 0 => rfl
  | n + 1 => by
    have := sumTo_mul (f := f) c (n := n)
    simp only [sumTo]
    rw [this, Nat.mul_add]
theorem sumTo_nil : ∀ {n : Nat}, sumTo (fun _ => 0) n = 0
  | 0 => rfl
  | n + 1 => by
    have := sumTo_nil (n := n)
    simp only [sumTo]
    omega
theorem sumTo_swap {f : Nat → Nat → Nat} {n : Nat} : ∀ {m : Nat}, sumTo (fun k => sumTo (fun i => f i k) n) m = sumTo (fun i => sumTo (fun k => f i k) m) n
  | 0 => by
    simp only [sumTo]
    rw [sumTo_nil]
  | m + 1 => by
    have := sumTo_swap (f := f) (n := n) (m := m)
    simp only [sumTo]
    rw [this, sumTo_add]
theorem sumTo_at (x : Int) : ∀ {n : Nat}, sumTo (fun k => if (k : Int) + 1 = x then 1 else 0) n ≤ if 1 ≤ x ∧ x ≤ n then 1 else 0
  | 0 => by simp [sumTo]
  | n + 1 => by
    have := sumTo_at x (n := n)
    simp only [sumTo]
    split at this <;> split <;> split <;> omega
theorem count_sum (n : Nat) : ∀ (L : List Int), sumTo (fun k => L.count ((k : Int) + 1)) n ≤ L.length
  | [] => by
    simp only [List.count_nil, sumTo_nil]
    exact Nat.zero_le _
  | x :: L => by
    have h1 := count_sum n L
    have h2 := sumTo_at x (n := n)
    have e : sumTo (fun k => (x :: L).count ((k : Int) + 1)) n = sumTo (fun k => L.count ((k : Int) + 1) + if (k : Int) + 1 = x then 1 else 0) n := sumTo_congr fun k _ => by
      by_cases e : (k : Int) + 1 = x
      · subst e; rw [List.count_cons_self, if_pos rfl]
      · rw [List.count_cons_of_ne (fun h => e h.symm), if_neg e]; rfl
    rw [e, sumTo_add]
    simp only [List.length_cons]
    split at h2 <;> omega

/-- the block k is new, of that level -/
def isNew (B C : Nat → Blk) (lv : Int) (k : Nat) : Nat := if (B k).refs = 0 ∧ (C k).refs ≠ 0 ∧ (C k).level = lv then 1 else 0
/-- how many are new -/
def news (n : Nat) (B C : Nat → Blk) (lv : Int) : Nat := sumTo (isNew B C lv) n

theorem isNew_of {B C : Nat → Blk} {lv : Int} {k : Nat} (h1 : (B k).refs = 0) (h2 : (C k).refs ≠ 0) (h3 : (C k).level = lv) : isNew B C lv k = 1 := if_pos ⟨h1, h2, h3⟩
theorem isNew_le {B C : Nat → Blk} {lv : Int} {k : Nat} {m : Nat} (h : (B k).refs = 0 → (C k).refs ≠ 0 → (C k).level = lv → 1 ≤ m) : isNew B C lv k ≤ m := by
  unfold isNew
  split
  · next hh => exact h hh.1 hh.2.1 hh.2.2
  · exact Nat.zero_le _

theorem among_free {n : Nat} {B : Nat → Blk} (hB : Right n B) {k : Nat} (hk : k < n) (h0 : (B k).refs = 0) : among n B ((k : Int) + 1) = 0 := by
  have := outs_free hB hk h0
  unfold outs at this
  omega

theorem kids_free {n : Nat} {C : Nat → Blk} (hC : Right n C) {i : Nat} (hi : i < n) (h0 : (C i).refs = 0) : (C i).kids = [] := by
  rw [(hC.one i hi).zero h0]; rfl

theorem count_less {L : List Int} {x y : Int} (hx : x ∈ L) (hn : x ≠ y) (h4 : L.length ≤ 4) : L.count y ≤ 3 := by
  have h1 := List.count_le_length (a := y) (l := L)
  by_cases e : L.count y = L.length
  · exact absurd (List.count_eq_length.1 e x hx).symm hn
  · omega

theorem among_new {n : Nat} {B C : Nat → Blk} (hB : Right n B) (hC : Right n C) (hx : Ext n B C) {k : Nat} (hk : k < n) {m : Nat} (hm : ∀ i, i < n → (B i).refs = 0 → (C i).refs ≠ 0 → ((k : Int) + 1) ∈ (C i).kids → (C i).kids.count ((k : Int) + 1) ≤ m) :
    among n C ((k : Int) + 1) ≤ among n B ((k : Int) + 1) + m * news n B C ((C k).level + 1) := by
  unfold among news
  rw [← sumTo_mul, ← sumTo_add]
  refine sumTo_le fun i hi => ?_
  by_cases hb : (B i).refs = 0
  · by_cases hc : (C i).refs = 0
    · rw [kids_free hC hi hc]; simp
    · by_cases hin : ((k : Int) + 1) ∈ (C i).kids
      · rw [isNew_of hb hc (kid_of hC hi hin).2.1]
        have := hm i hi hb hc hin
        omega
      · rw [List.count_eq_zero.2 hin]; exact Nat.zero_le _
  · rw [(hx.keep i hi hb).2.2.1]
    exact Nat.le_add_right _ _

theorem news_top {n : Nat} {B C : Nat → Blk} (hC : Right n C) {lv : Int} (h : 3 < lv) : news n B C lv = 0 := by
  have e : sumTo (isNew B C lv) n = sumTo (fun _ => 0) n := sumTo_congr fun i hi => by
    unfold isNew
    rw [if_neg]
    intro ⟨_, _, h3⟩
    have := (hC.one i hi).bounds
    omega
  unfold news
  rw [e, sumTo_nil]

/-- what a turning leaves, as far as counts go -/
structure Held1 (n : Nat) (B C : Nat → Blk) (a : Int) : Prop where
  left : Right n B
  right : Right n C
  ext : Ext n B C
  root : Root n C 3 a
  out : ∀ k, k < n → outs n C k = outs n B k + if (k : Int) + 1 = a then 1 else 0

theorem count_four {n : Nat} {C : Nat → Blk} (hC : Right n C) {i : Nat} (hi : i < n) (x : Int) : (C i).kids.count x ≤ 4 := Nat.le_trans List.count_le_length (hC.one i hi).few

theorem Held1.level {n : Nat} {B C : Nat → Blk} {a : Int} (h : Held1 n B C a) {k : Nat} (e : (k : Int) + 1 = a) : (C k).level = 3 := by
  rcases h.root with hr | ⟨_, hl⟩
  · omega
  · rw [← e, show ((k : Int) + 1 - 1).toNat = k by omega] at hl; exact hl

theorem Held1.news3 {n : Nat} {B C : Nat → Blk} {a : Int} (h : Held1 n B C a) : news n B C 3 ≤ 1 := by
  have h2 := sumTo_at a (n := n)
  have h1 : news n B C 3 ≤ sumTo (fun k => if (k : Int) + 1 = a then 1 else 0) n := sumTo_le fun k hk => isNew_le fun hb hc hl => by
    have ha := among_new h.left h.right h.ext hk (m := 4) (fun i hi _ _ _ => count_four h.right hi _)
    rw [hl, news_top h.right (by omega), among_free h.left hk hb] at ha
    have ho := h.out k hk
    have hz := outs_free h.left hk hb
    have hbd := (h.right.one k hk).bounds
    unfold outs at ho
    unfold outs at hz
    by_cases e : (k : Int) + 1 = a
    · rw [if_pos e]; omega
    · rw [if_neg e] at ho; omega
  split at h2 <;> omega

theorem Held1.less {n : Nat} {B C : Nat → Blk} {a : Int} (h : Held1 n B C a) {lv : Int} (hl : lv < 3) : news n B C lv ≤ 4 * news n B C (lv + 1) := by
  have h1 : news n B C lv ≤ sumTo (fun k => sumTo (fun i => if (B i).refs = 0 ∧ (C i).refs ≠ 0 ∧ (C i).level = lv + 1 then (C i).kids.count ((k : Int) + 1) else 0) n) n := sumTo_le fun k hk => isNew_le fun hb hc he => by
    have ho := h.out k hk
    have hz := outs_free h.left hk hb
    have hbd := (h.right.one k hk).bounds
    have hne : ¬ (k : Int) + 1 = a := fun e => by have := h.level e; omega
    rw [if_neg hne] at ho
    unfold outs at ho
    unfold outs at hz
    have hpos : 1 ≤ among n C ((k : Int) + 1) := by omega
    refine Nat.le_trans hpos (sumTo_le fun i hi => ?_)
    by_cases hin : ((k : Int) + 1) ∈ (C i).kids
    · obtain ⟨_, h2, h3⟩ := kid_of h.right hi hin
      by_cases hbi : (B i).refs = 0
      · rw [if_pos ⟨hbi, h3, by omega⟩]; exact Nat.le_refl _
      · rw [(h.ext.keep i hi hbi).2.2.1] at hin
        exact absurd hb (kid_of h.left hi hin).1
    · show (C i).kids.count ((k : Int) + 1) ≤ _
      rw [List.count_eq_zero.2 hin]; exact Nat.zero_le _
  rw [sumTo_swap] at h1
  refine Nat.le_trans h1 ?_
  unfold news
  rw [← sumTo_mul]
  refine sumTo_le fun i hi => ?_
  unfold isNew
  by_cases hc : (B i).refs = 0 ∧ (C i).refs ≠ 0 ∧ (C i).level = lv + 1
  · simp only [if_pos hc]
    have := count_sum n (C i).kids
    have := (h.right.one i hi).few
    omega
  · simp only [if_neg hc]
    rw [sumTo_nil]
    exact Nat.zero_le _

theorem Held1.news_up {n : Nat} {B C : Nat → Blk} {a : Int} (h : Held1 n B C a) {lv : Int} (h0 : 0 ≤ lv) (hl : lv < 3) : news n B C (lv + 1) ≤ 16 := by
  have h3 := h.news3
  have h2 : news n B C 2 ≤ 4 * news n B C 3 := h.less (lv := 2) (by omega)
  have h1 : news n B C 1 ≤ 4 * news n B C 2 := h.less (lv := 1) (by omega)
  have hc : lv = 0 ∨ lv = 1 ∨ lv = 2 := by omega
  rcases hc with e | e | e <;> subst e
  · show news n B C 1 ≤ 16
    omega
  · show news n B C 2 ≤ 16
    omega
  · show news n B C 3 ≤ 16
    omega

/-- behind the turning of a file nothing is held more than 48 times more -/
theorem few48 {n : Nat} {B C : Nat → Blk} {a cc : Int} (h : Held1 n B C a) (hk : NewK n B C) (h64 : 64 ≤ cc) (hc : ∀ k, k < n → (B k).refs ≤ cc) : ∀ k, k < n → (C k).refs ≤ cc + 48 := by
  intro k hkn
  have hbd := (h.right.one k hkn).bounds
  have ho := h.out k hkn
  have hcb := hc k hkn
  by_cases hck : (C k).refs = 0
  · omega
  by_cases hb : (B k).refs = 0
  · have ha := among_new h.left h.right h.ext hkn (m := 4) (fun i hi _ _ _ => count_four h.right hi _)
    rw [among_free h.left hkn hb] at ha
    have hz := outs_free h.left hkn hb
    have hup : news n B C ((C k).level + 1) ≤ 16 := by
      by_cases e : (C k).level = 3
      · rw [e, news_top h.right (by omega)]; omega
      · exact h.news_up hbd.2.2.1 (by omega)
    rw [hz] at ho
    unfold outs at ho
    by_cases e : (k : Int) + 1 = a
    · rw [if_pos e] at ho
      have hl := h.level e
      rw [hl, news_top h.right (by omega)] at ha
      omega
    · rw [if_neg e] at ho; omega
  · have ha := among_new h.left h.right h.ext hkn (m := 3) (fun i hi hbi hci hin => by
      have hl := kid_of h.right hi hin
      obtain ⟨x, hx, hor⟩ := hk i hi hbi hci (by have := (h.right.one k hkn).bounds; omega)
      refine count_less hx (fun e => ?_) (h.right.one i hi).few
      subst e
      rcases hor with e | e
      · omega
      · rw [show ((k : Int) + 1 - 1).toNat = k by omega] at e; exact hb e)
    unfold outs at ho
    by_cases e : (k : Int) + 1 = a
    · rw [if_pos e] at ho
      have hl := h.level e
      rw [hl, news_top h.right (by omega)] at ha
      omega
    · rw [if_neg e] at ho
      have hup : news n B C ((C k).level + 1) ≤ 16 := by
        by_cases e : (C k).level = 3
        · rw [e, news_top h.right (by omega)]; omega
        · exact h.news_up hbd.2.2.1 (by omega)
      omega
end Go.Proofs.Ytaagnojdpedilad
