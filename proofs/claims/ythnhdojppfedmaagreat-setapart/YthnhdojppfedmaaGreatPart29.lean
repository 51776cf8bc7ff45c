/-
  Gath in one text. Nothing here is trusted.
-/
import Derived.Test.YthnhdojppfedmaaGreatPart28
import Derived.Test.YthnhdojppfedmaaGreatPart10
set_option linter.unusedVariables false
namespace Go.Proofs.YthnhdojppfedmaaGreat
open Go.RowKit

def nA : ByteArray := ByteArray.mk #[97]
def nF : ByteArray := ByteArray.mk #[102]
def nS : ByteArray := ByteArray.mk #[115]
def nO : ByteArray := ByteArray.mk #[]
def one3 : List Int := [111, 110, 101]
def two3 : List Int := [116, 119, 111]
def x0 : SetE := ⟨nA, [], []⟩
def ask1 : AskE := ⟨3, nO, nF, nO, 0, 0, one3⟩
def ask2 : AskE := ⟨7, nO, nO, nS, 0, 0, []⟩
def ask3 : AskE := ⟨3, nO, nF, nO, 0, 0, two3⟩
def askL : AskE := ⟨11, nO, nF, nO, 0, 9, []⟩
def ask5 : AskE := ⟨9, nO, nO, nS, 0, 0, []⟩
def zeroB : Nat → Blk := fun _ => Blk.zero
theorem ok1 : ask1.ok := by refine ⟨⟨?_, ?_, ?_⟩, ?_, ?_, ?_⟩ <;> decide
theorem ok2 : ask2.ok := by refine ⟨⟨?_, ?_, ?_⟩, ?_, ?_, ?_⟩ <;> decide
theorem ok3 : ask3.ok := by refine ⟨⟨?_, ?_, ?_⟩, ?_, ?_, ?_⟩ <;> decide
theorem ok5 : ask5.ok := by refine ⟨⟨?_, ?_, ?_⟩, ?_, ?_, ?_⟩ <;> decide
theorem bytes_nil : Bytes [] := fun x hx => by simp at hx
theorem nums_nil (w : World) : NumsAt (fun _ => True) .u8 w none 0 [] := ⟨rfl, fun x hx => by simp at hx, fun h => absurd h (by omega)⟩
theorem isName_A : IsName nA := ⟨by decide, by decide, by intro c hc; simp [nA] at hc; subst hc; left; decide⟩
theorem isName_F : IsName nF := ⟨by decide, by decide, by intro c hc; simp [nF] at hc; subst hc; left; decide⟩
theorem isName_S : IsName nS := ⟨by decide, by decide, by intro c hc; simp [nS] at hc; subst hc; left; decide⟩
theorem used_pos {C D : Nat → Blk} : ∀ {n : Nat}, (∀ k, k < n → 0 < (D k).refs → 0 < (C k).refs) → usedTo D n ≤ usedTo C n
  | 0, _ => Nat.le_refl _
  | n + 1, h => by
    rw [usedTo_succ, usedTo_succ]
    have h1 := used_pos (n := n) fun k hk => h k (by omega)
    have h2 := h n (by omega)
    by_cases hd : 0 < (D n).refs
    · rw [if_pos hd, if_pos (h2 hd)]; omega
    · rw [if_neg hd]; omega
theorem done_used {n : Nat} {C D : Nat → Blk} {K T : List Int} (hC : Right n C) (hK : ∀ r ∈ K, r = 0 ∨ There n C r) (hF : Fell n (moreB C K) D T) : usedTo D n ≤ usedTo C n := used_pos fun k hk h => by
  have h1 := fell_refs hF k hk
  rw [moreB_refs] at h1
  have hb := (hC.one k hk).bounds
  by_cases h0 : (C k).refs = 0
  · exfalso
    have hz : K.count ((k : Int) + 1) = 0 := by
      rw [List.count_eq_zero]
      intro hm
      rcases hK _ hm with h | ⟨_, _, h⟩
      · omega
      · rw [show ((k : Int) + 1 - 1).toNat = k by omega] at h; exact h h0
    rw [hz] at h1
    omega
  · omega
theorem setOk_x0 : SetOk 40 zeroB 1 x0 := setOk_of (by omega) (right_zero 40 (by omega)) ⟨isName_A, by decide, fun e he => by simp [x0] at he, List.Pairwise.nil, by decide, fun s hs => by simp [x0] at hs, List.Pairwise.nil, fun s hs => by simp [x0] at hs⟩ (fun e he => by simp [entsX, x0] at he)
theorem heldR_x0 : HeldR 40 zeroB (rootsX x0) := fun k hk => by
  have h1 : outs 40 zeroB k = 0 := by
    unfold outs
    rw [show among 40 zeroB ((k : Int) + 1) = 0 from among_free (right_zero 40 (by omega)) hk rfl]
    rfl
  rw [h1]
  simp [rootsX, rootsE, rootsS, x0]
theorem few_x0 : ∀ k, k < 40 → (zeroB k).refs ≤ 64 := fun k _ => by show (0 : Int) ≤ 64; omega
theorem bytes_one : Bytes one3 := by intro x hx; simp [one3] at hx; omega
theorem bytes_two : Bytes two3 := by intro x hx; simp [two3] at hx; omega
theorem named_x0 {root size : Int} (h : Named x0 nF root size) : root = 0 ∧ size = 0 := by
  rcases h with ⟨f, hf, _⟩ | ⟨_, h1, h2⟩
  · simp [x0] at hf
  · exact ⟨h1, h2⟩
theorem gover1 : overL ((zeros 256).take (0 : Int).toNat) (0 : Int).toNat one3 = one3 := by kernel_rfl
theorem gchgA : chg (zeros 256) (padTo one3) 64 = 1 := by kernel_rfl
theorem gover2 : overL ((padTo one3).take (3 : Int).toNat) (0 : Int).toNat two3 = two3 := by kernel_rfl
theorem gchgB : chg (padTo one3) (padTo two3) 64 = 1 := by kernel_rfl
theorem gread1 : readL (padTo one3) (3 : Int).toNat (0 : Int).toNat (9 : Int).toNat = one3 := by kernel_rfl
theorem gread2 : readL (padTo two3) (3 : Int).toNat (0 : Int).toNat (9 : Int).toNat = two3 := by kernel_rfl
theorem fileL_B0 : fileL 1 (leafAt zeroB 3 0) = zeros 256 := (fileOk_zero (n := 40) (B := zeroB) (key := 1) (size := 0) (right_zero 40 (by omega)) (by omega) (by omega)).2

theorem g_no1 : ¬ ChgNo 40 zeroB 1 x0 ask1 := fun h => by
  obtain ⟨root, size, hN, h1⟩ := h.1 rfl isName_F ⟨by decide, by decide⟩ (.inr (by decide))
  obtain ⟨rfl, rfl⟩ := named_x0 hN
  have e : overN 1 zeroB ask1 0 0 = one3 := by
    show overL ((fileL 1 (leafAt zeroB 3 0)).take (0 : Int).toNat) (0 : Int).toNat one3 = one3
    rw [fileL_B0, gover1]
  rw [e, fileL_B0, gchgA, show usedTo zeroB 40 = 0 from used_zero 40] at h1
  omega
theorem g1 {D : Nat → Blk} {y : SetE} (h : Did 40 zeroB 1 x0 ask1 64 D y) : ∃ m : Int, y = ⟨nA, [⟨nF, m, 3⟩], []⟩ ∧ fileL 1 (leafAt D 3 m) = padTo one3 ∧ usedTo D 40 ≤ 4 := by
  obtain ⟨C, made, hY, hD, hF⟩ := h
  have hc := hY.chg setOk_x0 bytes_one few_x0
  have hdn := hc.done setOk_x0 heldR_x0 (by unfold moreOf; rw [if_pos (.inl rfl)]; omega) hD hF
  have hu := done_used hc.grow.right hc.there hF
  rcases hY with ⟨_, _, _, root, size, hok, hT, p, ht⟩ | ⟨h, _⟩ | ⟨hp, _⟩
  · rcases ht with ⟨hp, _⟩ | ⟨_, rfl, rfl, _, _, _, rfl⟩
    · exact absurd hp (by simp [x0])
    · have e : overN 1 zeroB ask1 0 0 = one3 := by
        show overL ((fileL 1 (leafAt zeroB 3 0)).take (0 : Int).toNat) (0 : Int).toNat one3 = one3
        rw [fileL_B0, gover1]
      rw [e] at hT
      have hfile := (hT.file hok (by decide) bytes_one).2.1
      have hu2 := hT.used
      rw [fileL_B0, gchgA, show usedTo zeroB 40 = 0 from used_zero 40] at hu2
      have hyy : ({ x0 with files := x0.files.take p ++ (⟨ask1.file, made, ((overN 1 zeroB ask1 0 0).length : Int)⟩ : Ent) :: x0.files.drop p } : SetE) = ⟨nA, [⟨nF, made, 3⟩], []⟩ := by
        rw [e]
        simp [x0, ask1, one3]
      refine ⟨made, hyy, ?_, by omega⟩
      rw [hyy] at hdn
      rw [hdn.2.1 ⟨nF, made, 3⟩ (by simp [entsX])]
      exact hfile
  · exact absurd h (by decide)
  · rcases hp with ⟨h, _⟩ | ⟨h, _⟩ | ⟨h, _⟩ | ⟨h, _⟩ | ⟨h, _⟩ <;> exact absurd h (by decide)
theorem g_no2 {B : Nat → Blk} {m : Int} : ¬ ChgNo 40 B 1 ⟨nA, [⟨nF, m, 3⟩], []⟩ ask2 := fun h => h.2.2.1 rfl ⟨isName_S, by simp, by simp⟩
theorem plain_used {B D : Nat → Blk} {x y : SetE} {a : AskE} {cc : Int} (hx : SetOk 40 B 1 x) (h : Did 40 B 1 x a cc D y) (h3 : a.kind ≠ 3) (h4 : a.kind ≠ 4) : usedTo D 40 ≤ usedTo B 40 := by
  obtain ⟨hp, hD, hF⟩ := h.plain h3 h4
  refine done_used hx.right (fun r hr => ?_) hF
  rw [rootsX_eq] at hr
  obtain ⟨e, he, rfl⟩ := mem_rootsE.1 hr
  rcases ((plain_facts hx hp).2.1 e he).rooted with h0 | ⟨h1, _⟩
  · exact .inl h0
  · exact .inr h1
theorem g2 {B D : Nat → Blk} {y : SetE} {m cc : Int} (h : Did 40 B 1 ⟨nA, [⟨nF, m, 3⟩], []⟩ ask2 cc D y) : y = ⟨nA, [⟨nF, m, 3⟩], [⟨nS, [⟨nF, m, 3⟩]⟩]⟩ := by
  obtain ⟨_, q, _, _, rfl⟩ := plain_snap (h.plain (by decide) (by decide)).1 rfl
  simp [ask2]
theorem named_y2 {root size m : Int} (h : Named ⟨nA, [⟨nF, m, 3⟩], [⟨nS, [⟨nF, m, 3⟩]⟩]⟩ nF root size) : root = m ∧ size = 3 := by
  rcases h with ⟨f, hf, _, h1, h2⟩ | ⟨h, _⟩
  · simp at hf
    subst hf
    exact ⟨h1, h2⟩
  · exact absurd ⟨⟨nF, m, 3⟩, by simp, rfl⟩ h
theorem g_no3 {B : Nat → Blk} {m : Int} (hf : fileL 1 (leafAt B 3 m) = padTo one3) (hu : usedTo B 40 ≤ 4) : ¬ ChgNo 40 B 1 ⟨nA, [⟨nF, m, 3⟩], [⟨nS, [⟨nF, m, 3⟩]⟩]⟩ ask3 := fun h => by
  obtain ⟨root, size, hN, h1⟩ := h.1 rfl isName_F ⟨by decide, by decide⟩ (.inr (by simp))
  obtain ⟨rfl, rfl⟩ := named_y2 hN
  have e : overN 1 B ask3 root 3 = two3 := by
    show overL ((fileL 1 (leafAt B 3 root)).take (3 : Int).toNat) (0 : Int).toNat two3 = two3
    rw [hf, gover2]
  rw [e, hf, gchgB] at h1
  omega
theorem g3 {B D : Nat → Blk} {y : SetE} {m cc : Int} (hx : SetOk 40 B 1 ⟨nA, [⟨nF, m, 3⟩], [⟨nS, [⟨nF, m, 3⟩]⟩]⟩) (hh : HeldR 40 B (rootsX ⟨nA, [⟨nF, m, 3⟩], [⟨nS, [⟨nF, m, 3⟩]⟩]⟩)) (hc : ∀ k, k < 40 → (B k).refs ≤ cc) (hcc : cc + 48 + 24 ≤ 1000000) (hf : fileL 1 (leafAt B 3 m) = padTo one3) (h : Did 40 B 1 ⟨nA, [⟨nF, m, 3⟩], [⟨nS, [⟨nF, m, 3⟩]⟩]⟩ ask3 cc D y) :
    ∃ m3 : Int, y = ⟨nA, [⟨nF, m3, 3⟩], [⟨nS, [⟨nF, m, 3⟩]⟩]⟩ ∧ fileL 1 (leafAt D 3 m3) = padTo two3 := by
  obtain ⟨C, made, hY, hD, hF⟩ := h
  have hcg := hY.chg hx bytes_two hc
  have hdn := hcg.done hx hh (by unfold moreOf; rw [if_pos (.inl rfl)]; exact hcc) hD hF
  rcases hY with ⟨_, _, _, root, size, hok, hT, p, ht⟩ | ⟨h, _⟩ | ⟨hp, _⟩
  · rcases ht with ⟨hp, _, hr, hs, rfl⟩ | ⟨h, _⟩
    · have hp0 : p = 0 := by simp at hp; omega
      subst hp0
      simp at hr hs
      subst hr hs
      have e : overN 1 B ask3 root 3 = two3 := by
        show overL ((fileL 1 (leafAt B 3 root)).take (3 : Int).toNat) (0 : Int).toNat two3 = two3
        rw [hf, gover2]
      rw [e] at hT
      have hfile := (hT.file hok (by decide) bytes_two).2.1
      refine ⟨made, by rw [e]; simp [two3], ?_⟩
      have := hdn.2.1 ⟨nF, made, ((overN 1 B ask3 root 3).length : Int)⟩ (by simp [entsX])
      exact this.trans hfile
    · exact absurd ⟨⟨nF, m, 3⟩, by simp, rfl⟩ h
  · exact absurd h (by decide)
  · rcases hp with ⟨h, _⟩ | ⟨h, _⟩ | ⟨h, _⟩ | ⟨h, _⟩ | ⟨h, _⟩ <;> exact absurd h (by decide)
theorem g_no5 {B : Nat → Blk} {m m3 : Int} : ¬ ChgNo 40 B 1 ⟨nA, [⟨nF, m3, 3⟩], [⟨nS, [⟨nF, m, 3⟩]⟩]⟩ ask5 := fun h => h.2.2.2.2 rfl ⟨isName_S, ⟨nS, [⟨nF, m, 3⟩]⟩, by simp, rfl⟩
theorem g5 {B D : Nat → Blk} {y : SetE} {m m3 cc : Int} (h : Did 40 B 1 ⟨nA, [⟨nF, m3, 3⟩], [⟨nS, [⟨nF, m, 3⟩]⟩]⟩ ask5 cc D y) : y = ⟨nA, [⟨nF, m, 3⟩], [⟨nS, [⟨nF, m, 3⟩]⟩]⟩ := by
  obtain ⟨_, q, hq, _, rfl⟩ := plain_back (h.plain (by decide) (by decide)).1 rfl
  have hq0 : q = 0 := by simp at hq; omega
  subst hq0
  rfl
end Go.Proofs.YthnhdojppfedmaaGreat
