/-
  Sets1, SetMem, Sets2, Sets3 in one text. Nothing here is trusted.
-/
import Derived.Test.YtnmcgmpmcliinaaGreatPart13
import Derived.Test.YtnmcgmpmcliinaaGreatPart01
set_option linter.unusedVariables false
namespace Go.Proofs.YtnmcgmpmcliinaaGreat

/-- all that is reached from l in B is in C as it is in B -/
def Stays (n : Nat) (B C : Nat → Blk) (l : List Int) : Prop :=
  ∀ x, Clo B l x → There n C x ∧ (C (x - 1).toNat).level = (B (x - 1).toNat).level ∧ (C (x - 1).toNat).kids = (B (x - 1).toNat).kids ∧ (C (x - 1).toNat).bytes = (B (x - 1).toNat).bytes

theorem stays_refl {n : Nat} {B : Nat → Blk} {l : List Int} (hB : Right n B) (hl : RootsOk n B l) : Stays n B B l := fun x hx => ⟨hx.there hB hl, rfl, rfl, rfl⟩
theorem stays_ext {n : Nat} {B C : Nat → Blk} {l : List Int} (hB : Right n B) (hl : RootsOk n B l) (hx : Ext n B C) : Stays n B C l := fun x hc => by
  obtain ⟨h1, h2, h3⟩ := hc.there hB hl
  obtain ⟨g1, g2, g3, g4⟩ := hx.keep _ (ix h1 h2).1 h3
  exact ⟨⟨h1, h2, g1⟩, g2, g3, g4⟩
theorem stays_fell {n : Nat} {B C : Nat → Blk} {l T : List Int} (hC : Right n C) (hF : Fell n B C T) (hl : RootsOk n C l) : Stays n B C l := fun x hc => by
  have ht := ((clo_behind hC hF hl x).1 hc).there hC hl
  exact ⟨ht, fell_content hF ht⟩
theorem Stays.clo {n : Nat} {B C : Nat → Blk} {l : List Int} (h : Stays n B C l) {x : Int} (hx : Clo B l x) : Clo C l x := by
  refine (hx (fun y => Clo B l y ∧ Clo C l y) (fun r hr h0 => ⟨Clo.root hr h0, Clo.root hr h0⟩) ?_).2
  rintro y ⟨h1, h2⟩ k hk h0
  exact ⟨h1.kid hk h0, h2.kid (by rw [(h y h1).2.2.1]; exact hk) h0⟩
theorem Stays.trans {n : Nat} {B C D : Nat → Blk} {l : List Int} (h : Stays n B C l) (k : Stays n C D l) : Stays n B D l := fun x hx => by
  obtain ⟨_, h1, h2, h3⟩ := h x hx
  obtain ⟨k0, k1, k2, k3⟩ := k x (h.clo hx)
  exact ⟨k0, k1.trans h1, k2.trans h2, k3.trans h3⟩
theorem Stays.mono {n : Nat} {B C : Nat → Blk} {l m : List Int} (h : Stays n B C l) (hm : ∀ x ∈ m, x ∈ l) : Stays n B C m := fun x hx => h x (hx.mono fun r hr h0 => Clo.root (hm r hr) h0)
theorem Stays.leaf {n : Nat} {B C : Nat → Blk} {l : List Int} (hB : Right n B) (hC : Right n C) (h : Stays n B C l) : ∀ (v : Nat) (a : Int), Root n B v a → (a = 0 ∨ Clo B l a) → Root n C v a ∧ ∀ i, i < pw v → leafAt C v a i = leafAt B v a i
  | v, a, hr, .inl h0 => by
    subst h0
    exact ⟨.inl rfl, fun i hi => by rw [leafAt_zero _ _ _ hi, leafAt_zero _ _ _ hi]⟩
  | 0, a, hr, .inr ht => by
    obtain ⟨c0, c1, c2, c3⟩ := h a ht
    have h1 := c0.1
    refine ⟨?_, fun i _ => ?_⟩
    · rcases hr with h | ⟨_, h⟩
      · exact .inl h
      · exact .inr ⟨c0, c1.trans h⟩
    · simp only [leafAt, bytesL]
      rw [if_neg (by omega), if_neg (by omega), c3]
  | v + 1, a, hr, .inr ht => by
    obtain ⟨c0, c1, c2, c3⟩ := h a ht
    have h1 := c0.1
    have hrE : Root n C (v + 1) a := by
      rcases hr with h | ⟨_, h⟩
      · exact .inl h
      · exact .inr ⟨c0, c1.trans h⟩
    have hk : kidsL C a = kidsL B a := by unfold kidsL; rw [if_neg (by omega), if_neg (by omega), c2]
    refine ⟨hrE, fun i hi => ?_⟩
    have hp := pw_pos v
    have hd : i / pw v < 4 := by simp only [pw] at hi; exact Nat.div_lt_of_lt_mul (by rw [Nat.mul_comm]; exact hi)
    simp only [leafAt]
    rw [hk]
    refine (Stays.leaf hB hC h v _ (hr.kidAt hB hd) ?_).2 _ (Nat.mod_lt _ hp)
    by_cases h0 : (kidsL B a).getD (i / pw v) 0 = 0
    · exact .inl h0
    · refine .inr (ht.kid ?_ h0)
      have hlen := hr.len hB
      have hm : (kidsL B a).getD (i / pw v) 0 ∈ kidsL B a := by
        rw [List.getD_eq_getElem?_getD, List.getElem?_eq_getElem (by omega)]
        exact List.getElem_mem _
      have hk2 : kidsL B a = (B (a - 1).toNat).kids := by unfold kidsL; rw [if_neg (by omega)]
      rw [hk2] at hm ⊢
      exact hm
theorem FileOk.stays {n : Nat} {B C : Nat → Blk} {key root size : Int} {l : List Int} (h : FileOk n B key root size) (hC : Right n C) (hs : Stays n B C l) (hr : root ∈ l) : FileOk n C key root size ∧ fileL key (leafAt C 3 root) = fileL key (leafAt B 3 root) := by
  have hor : root = 0 ∨ Clo B l root := by
    by_cases h0 : root = 0
    · exact .inl h0
    · exact .inr (Clo.root hr h0)
  obtain ⟨h1, hl⟩ := hs.leaf h.right hC 3 root h.rooted hor
  have e : fileL key (leafAt C 3 root) = fileL key (leafAt B 3 root) := fileL_congr hl
  exact ⟨⟨h.kb, h.sb, hC, h1, fun i hi => by rw [hl i hi]; exact h.form i hi, by rw [e]; exact h.behind⟩, e⟩

/-- C is B with the roots K held besides -/
structure Grow (n : Nat) (B C : Nat → Blk) (K : List Int) : Prop where
  right : Right n C
  ext : Ext n B C
  out : ∀ k, k < n → outs n C k = outs n B k + (K.count ((k : Int) + 1) : Int)
theorem Turned.grow {n : Nat} {B C : Nat → Blk} {a c : Int} (h : Turned n B C a c) : Grow n B C [a] := ⟨h.right, h.ext, fun k hk => by
  rw [h.out k hk]
  by_cases e : (k : Int) + 1 = a
  · subst e; rw [if_pos rfl, List.count_cons_self]; simp
  · rw [if_neg e, List.count_cons_of_ne (fun h => e h.symm)]; simp⟩
theorem grow_nil {n : Nat} {B : Nat → Blk} (hB : Right n B) : Grow n B B [] := ⟨hB, Ext.refl _ _, fun k _ => by simp⟩
theorem Grow.trans {n : Nat} {B C D : Nat → Blk} {K L : List Int} (h : Grow n B C K) (g : Grow n C D L) : Grow n B D (K ++ L) := ⟨g.right, h.ext.trans g.ext, fun k hk => by
  rw [g.out k hk, h.out k hk, List.count_append]; omega⟩
theorem Grow.zero {n : Nat} {B C : Nat → Blk} {K : List Int} (h : Grow n B C K) : Grow n B C (0 :: K) := ⟨h.right, h.ext, fun k hk => by
  rw [h.out k hk, List.count_cons_of_ne (by omega)]⟩
theorem grow_kept {n : Nat} {B : Nat → Blk} {i : Nat} (hB : Right n B) (hi : i < n) (h0 : (B i).refs ≠ 0) (hm : (B i).refs ≤ 999999) : Grow n B (keptB B ((i : Int) + 1)) [(i : Int) + 1] := by
  refine ⟨right_kept9 hB hi h0 hm, ⟨fun k hk h0 => ?_⟩, fun k hk => ?_⟩
  · by_cases ek : k = i
    · subst ek
      have hb := (hB.one k hk).bounds
      rw [kept_same]
      exact ⟨by show (B k).refs + 1 ≠ 0; omega, rfl, rfl, rfl⟩
    · rw [kept_other ek]; exact ⟨h0, rfl, rfl, rfl⟩
  · rw [outs_kept]
    by_cases ek : k = i
    · subst ek; rw [if_pos rfl, List.count_cons_self]; simp
    · rw [if_neg ek, List.count_cons_of_ne (by omega)]; simp

/-- each root of R is held from outside as often as it stands there -/
def HeldR (n : Nat) (B : Nat → Blk) (R : List Int) : Prop := ∀ k, k < n → (R.count ((k : Int) + 1) : Int) ≤ outs n B k
/-- what others hold -/
def baseL (n : Nat) (B : Nat → Blk) (R : List Int) : List Int := heldL (fun k => decide (0 < outs n B k - (R.count ((k : Int) + 1) : Int))) n

theorem mem_baseL {n : Nat} {B : Nat → Blk} {R : List Int} {x : Int} : x ∈ baseL n B R ↔ ∃ k : Nat, k < n ∧ 0 < outs n B k - (R.count ((k : Int) + 1) : Int) ∧ x = (k : Int) + 1 := by
  unfold baseL
  rw [mem_heldL]
  simp only [decide_eq_true_eq]
theorem outs_there {n : Nat} {B : Nat → Blk} {k : Nat} (hk : k < n) (h : 0 < outs n B k) : There n B ((k : Int) + 1) := by
  refine ⟨by omega, by omega, ?_⟩
  rw [show ((k : Int) + 1 - 1).toNat = k by omega]
  unfold outs at h
  omega
theorem base_roots {n : Nat} {B : Nat → Blk} {R : List Int} : RootsOk n B (baseL n B R) := fun x hx => by
  obtain ⟨k, hk, h, rfl⟩ := mem_baseL.1 hx
  exact .inr (outs_there hk (by omega))
theorem held_roots {n : Nat} {B : Nat → Blk} {R : List Int} (h : HeldR n B R) {l : List Int} (hl : ∀ x ∈ l, x ∈ R) (hb : ∀ x ∈ R, x = 0 ∨ (1 ≤ x ∧ x ≤ n)) : RootsOk n B l := fun x hx => by
  rcases hb x (hl x hx) with h0 | ⟨h1, h2⟩
  · exact .inl h0
  · obtain ⟨k, rfl⟩ : ∃ k : Nat, x = (k : Int) + 1 := ⟨(x - 1).toNat, by omega⟩
    have hk : k < n := by omega
    refine .inr (outs_there hk ?_)
    have := h k hk
    have hc : 0 < R.count ((k : Int) + 1) := List.count_pos_iff.2 (hl _ hx)
    omega

/-- what a set's doings leave of a store: the roots R of one set, those that others hold -/
structure Moved (n : Nat) (B C : Nat → Blk) (R S : List Int) : Prop where
  right : Right n C
  out : ∀ k, k < n → outs n C k - (S.count ((k : Int) + 1) : Int) = outs n B k - (R.count ((k : Int) + 1) : Int)
  stays : Stays n B C (baseL n B R)
theorem moved_refl {n : Nat} {B : Nat → Blk} {R : List Int} (hB : Right n B) : Moved n B B R R := ⟨hB, fun _ _ => rfl, stays_refl hB base_roots⟩
theorem Moved.base {n : Nat} {B C : Nat → Blk} {R S : List Int} (h : Moved n B C R S) : baseL n C S = baseL n B R := by
  have : ∀ i, i ≤ n → heldL (fun k => decide (0 < outs n C k - (S.count ((k : Int) + 1) : Int))) i = heldL (fun k => decide (0 < outs n B k - (R.count ((k : Int) + 1) : Int))) i := by
    intro i
    induction i with
    | zero => intro _; rfl
    | succ i ih =>
      intro hi
      unfold heldL
      rw [ih (by omega), h.out i (by omega)]
  exact this n (Nat.le_refl _)
theorem Moved.trans {n : Nat} {B C D : Nat → Blk} {R S T : List Int} (h : Moved n B C R S) (g : Moved n C D S T) : Moved n B D R T :=
  ⟨g.right, fun k hk => (g.out k hk).trans (h.out k hk), h.stays.trans (h.base ▸ g.stays)⟩
theorem Moved.held {n : Nat} {B C : Nat → Blk} {R S : List Int} (h : Moved n B C R S) (hR : HeldR n B R) : HeldR n C S := fun k hk => by
  have h1 := h.out k hk
  have h2 := hR k hk
  omega
/-- roots are held besides, then others let go -/
theorem moved_of {n : Nat} {B C D : Nat → Blk} {R S K T : List Int} (hB : Right n B) (hR : HeldR n B R) (h : Grow n B C K) (hD : Right n D) (hF : Fell n C D T) (hS : ∀ x : Int, x ≠ 0 → S.count x + T.count x = R.count x + K.count x) :
    Moved n B D R S ∧ ∀ l, (∀ x ∈ l, x ∈ R ∧ x ∈ S) → (∀ x ∈ R, x = 0 ∨ (1 ≤ x ∧ x ≤ n)) → Stays n B D l := by
  have ho : ∀ k, k < n → outs n D k - (S.count ((k : Int) + 1) : Int) = outs n B k - (R.count ((k : Int) + 1) : Int) := fun k hk => by
    rw [hF.outs k hk, h.out k hk]
    have := hS ((k : Int) + 1) (by omega)
    omega
  have hSD : HeldR n D S := fun k hk => by
    have h1 := ho k hk
    have h2 := hR k hk
    omega
  refine ⟨⟨hD, ho, ?_⟩, fun l hl hb => ?_⟩
  · refine (stays_ext hB base_roots h.ext).trans (stays_fell hD hF fun x hx => ?_)
    obtain ⟨k, hk, h1, rfl⟩ := mem_baseL.1 hx
    refine .inr (outs_there hk ?_)
    have := ho k hk
    omega
  · refine (stays_ext hB (held_roots hR (fun x hx => (hl x hx).1) hb) h.ext).trans (stays_fell hD hF fun x hx => ?_)
    rcases hb x (hl x hx).1 with h0 | ⟨h1, h2⟩
    · exact .inl h0
    · obtain ⟨k, rfl⟩ : ∃ k : Nat, x = (k : Int) + 1 := ⟨(x - 1).toNat, by omega⟩
      have hk : k < n := by omega
      refine .inr (outs_there hk ?_)
      have := hSD k hk
      have hc : 0 < S.count ((k : Int) + 1) := List.count_pos_iff.2 (hl _ hx).2
      omega
/-- where all of both sets is let go, the same is left -/
theorem destroyed_same {n : Nat} {B C D E : Nat → Blk} {R S : List Int} (hB : Right n B) (h : Moved n B C R S) (hD : Right n D) (hFD : Fell n B D R) (hE : Right n E) (hFE : Fell n C E S) : ∀ k, k < n → E k = D k := by
  have hoD : ∀ k, k < n → outs n D k = outs n B k - (R.count ((k : Int) + 1) : Int) := fun k hk => hFD.outs k hk
  have hrD : RootsOk n D (baseL n B R) := fun x hx => by
    obtain ⟨k, hk, h1, rfl⟩ := mem_baseL.1 hx
    exact .inr (outs_there hk (by rw [hoD k hk]; exact h1))
  refine same_of hE hD (fun i hi => ?_) fun k hk => by rw [hFE.outs k hk, hoD k hk, h.out k hk]
  by_cases e1 : (E i).refs = 0
  · exact .inl e1
  by_cases e2 : (D i).refs = 0
  · exact .inr (.inl e2)
  have e0 : ((i : Int) + 1 - 1).toNat = i := by omega
  have hcl := all_reached hD (l := baseL n B R) (fun k hk h0 => mem_baseL.2 ⟨k, hk, by rw [← hoD k hk]; exact h0, rfl⟩) i hi e2
  have hs := h.stays _ ((clo_behind hD hFD hrD _).2 hcl)
  have hd := fell_content hFD (x := (i : Int) + 1) ⟨by omega, by omega, by rw [e0]; exact e2⟩
  have he := fell_content hFE (x := (i : Int) + 1) ⟨by omega, by omega, by rw [e0]; exact e1⟩
  rw [e0] at hs hd he
  exact .inr (.inr ⟨by rw [he.1, hs.2.1, hd.1], by rw [he.2.1, hs.2.2.1, hd.2.1], by rw [he.2.2, hs.2.2.2, hd.2.2]⟩)
end Go.Proofs.YtnmcgmpmcliinaaGreat

namespace Go.Proofs.YtnmcgmpmcliinaaGreat
open Go.RowKit

/-- an entry -/
structure Ent where
  name : ByteArray
  root : Int
  size : Int
def Ent.zero : Ent := ⟨ByteArray.empty, 0, 0⟩
instance : Inhabited Ent := ⟨Ent.zero⟩
def Ent.ok (x : Ent) : Prop := x.name.size ≤ maxLen ∧ (-9223372036854775808 ≤ x.root ∧ x.root ≤ 9223372036854775807) ∧ (-9223372036854775808 ≤ x.size ∧ x.size ≤ 9223372036854775807)

/-- an entry in memory, three cells -/
structure EntAt (w : World) (b off : Nat) (x : Ent) : Prop where
  c0 : w.cell? ⟨b, off, none⟩ = some (.string x.name)
  c1 : w.cell? ⟨b, off + 1, none⟩ = some (.int .i64 x.root)
  c2 : w.cell? ⟨b, off + 2, none⟩ = some (.int .i64 x.size)
/-- what a slice of entries holds -/
def EntsAt (Q : Nat → Prop) (w : World) (a : Option Addr) (n : Nat) (l : List Ent) : Prop :=
  l.length = n ∧ (∀ x ∈ l, x.ok) ∧ (0 < n → ∃ b off, a = some ⟨b, off, none⟩ ∧ b < w.heap.size ∧ Q b ∧ ∀ i, i < n → EntAt w b (off + i * 3) (l.getD i Ent.zero))

theorem EntAt.below {w w' : World} {b off : Nat} {x : Ent} (h : EntAt w b off x) (hb : Below w.heap.size w w') : EntAt w' b off x := by
  have hlt := cell_lt h.c0
  exact ⟨(hb.cell (p := ⟨b, off, none⟩) hlt).trans h.c0, (hb.cell (p := ⟨b, off + 1, none⟩) hlt).trans h.c1, (hb.cell (p := ⟨b, off + 2, none⟩) hlt).trans h.c2⟩
theorem EntAt.kept {g : Nat} {w w' : World} {b off : Nat} {x : Ent} (h : EntAt w b off x) (hg : b ≠ g) (hk : Kept g w w') : EntAt w' b off x :=
  ⟨(hk.cell (p := ⟨b, off, none⟩) hg).trans h.c0, (hk.cell (p := ⟨b, off + 1, none⟩) hg).trans h.c1, (hk.cell (p := ⟨b, off + 2, none⟩) hg).trans h.c2⟩
theorem entsAt_nil (Q : Nat → Prop) (w : World) (a : Option Addr) : EntsAt Q w a 0 [] := ⟨rfl, by simp, fun h => absurd h (by omega)⟩
theorem EntsAt.below {Q : Nat → Prop} {w w' : World} {a : Option Addr} {n : Nat} {l : List Ent} (h : EntsAt Q w a n l) (hb : Below w.heap.size w w') : EntsAt Q w' a n l := by
  refine ⟨h.1, h.2.1, fun hn => ?_⟩
  obtain ⟨b, off, rfl, hlt, hq, hc⟩ := h.2.2 hn
  exact ⟨b, off, rfl, Nat.lt_of_lt_of_le hlt hb.size, hq, fun i hi => (hc i hi).below hb⟩
theorem EntsAt.weaken {Q R : Nat → Prop} {w : World} {a : Option Addr} {n : Nat} {l : List Ent} (h : EntsAt Q w a n l) (hq : ∀ b, b < w.heap.size → Q b → R b) : EntsAt R w a n l := by
  refine ⟨h.1, h.2.1, fun hn => ?_⟩
  obtain ⟨b, off, rfl, hlt, q, hc⟩ := h.2.2 hn
  exact ⟨b, off, rfl, hlt, hq b hlt q, hc⟩
theorem EntsAt.kept {Q : Nat → Prop} {g : Nat} {w w' : World} {a : Option Addr} {n : Nat} {l : List Ent} (h : EntsAt Q w a n l) (hq : ∀ b, Q b → b ≠ g) (hk : Kept g w w') : EntsAt Q w' a n l := by
  refine ⟨h.1, h.2.1, fun hn => ?_⟩
  obtain ⟨b, off, rfl, hlt, q, hc⟩ := h.2.2 hn
  exact ⟨b, off, rfl, by rw [hk.size]; exact hlt, q, fun i hi => (hc i hi).kept (hq b q) hk⟩
theorem EntsAt.getD {Q : Nat → Prop} {w : World} {a : Option Addr} {n : Nat} {l : List Ent} (h : EntsAt Q w a n l) {i : Nat} (hi : i < n) : l.getD i Ent.zero ∈ l := by
  have hl : i < l.length := by rw [h.1]; exact hi
  have e : l.getD i Ent.zero = l[i] := by simp [List.getD, hl]
  rw [e]
  exact List.getElem_mem hl
theorem EntsAt.ent {Q : Nat → Prop} {w : World} {b off n : Nat} {l : List Ent} (h : EntsAt Q w (some ⟨b, off, none⟩) n l) {i : Nat} (hi : i < n) : EntAt w b (off + i * 3) (l.getD i Ent.zero) := by
  obtain ⟨b', off', e, _, _, hc⟩ := h.2.2 (by omega)
  simp only [Option.some.injEq, Addr.mk.injEq, and_true] at e
  obtain ⟨rfl, rfl⟩ := e
  exact hc i hi

/-- a snap -/
structure SnapE where
  name : ByteArray
  files : List Ent
def SnapE.zero : SnapE := ⟨ByteArray.empty, []⟩
instance : Inhabited SnapE := ⟨SnapE.zero⟩
/-- a snap in memory, two cells -/
structure SnapAt (Q : Nat → Prop) (w : World) (b off : Nat) (x : SnapE) (fa : Option Addr) (fn fc : Nat) : Prop where
  c0 : w.cell? ⟨b, off, none⟩ = some (.string x.name)
  c1 : w.cell? ⟨b, off + 1, none⟩ = some (.slice fa fn fc)
  files : EntsAt Q w fa fn x.files
  small : x.name.size ≤ maxLen
  caps : fn ≤ fc
/-- what a slice of snaps holds -/
def SnapsAt (Q : Nat → Prop) (w : World) (a : Option Addr) (n : Nat) (l : List SnapE) : Prop :=
  l.length = n ∧ (0 < n → ∃ b off, a = some ⟨b, off, none⟩ ∧ b < w.heap.size ∧ Q b ∧ ∀ i, i < n → ∃ fa fn fc, SnapAt Q w b (off + i * 2) (l.getD i SnapE.zero) fa fn fc)
theorem SnapAt.below {Q : Nat → Prop} {w w' : World} {b off : Nat} {x : SnapE} {fa : Option Addr} {fn fc : Nat} (h : SnapAt Q w b off x fa fn fc) (hb : Below w.heap.size w w') : SnapAt Q w' b off x fa fn fc := by
  have hlt := cell_lt h.c0
  exact ⟨(hb.cell (p := ⟨b, off, none⟩) hlt).trans h.c0, (hb.cell (p := ⟨b, off + 1, none⟩) hlt).trans h.c1, h.files.below hb, h.small, h.caps⟩
theorem SnapAt.kept {Q : Nat → Prop} {g : Nat} {w w' : World} {b off : Nat} {x : SnapE} {fa : Option Addr} {fn fc : Nat} (h : SnapAt Q w b off x fa fn fc) (hg : b ≠ g) (hq : ∀ b, Q b → b ≠ g) (hk : Kept g w w') : SnapAt Q w' b off x fa fn fc :=
  ⟨(hk.cell (p := ⟨b, off, none⟩) hg).trans h.c0, (hk.cell (p := ⟨b, off + 1, none⟩) hg).trans h.c1, h.files.kept hq hk, h.small, h.caps⟩
theorem SnapAt.weaken {Q R : Nat → Prop} {w : World} {b off : Nat} {x : SnapE} {fa : Option Addr} {fn fc : Nat} (h : SnapAt Q w b off x fa fn fc) (hq : ∀ b, b < w.heap.size → Q b → R b) : SnapAt R w b off x fa fn fc :=
  ⟨h.c0, h.c1, h.files.weaken hq, h.small, h.caps⟩
theorem snapsAt_nil (Q : Nat → Prop) (w : World) (a : Option Addr) : SnapsAt Q w a 0 [] := ⟨rfl, fun h => absurd h (by omega)⟩
theorem SnapsAt.below {Q : Nat → Prop} {w w' : World} {a : Option Addr} {n : Nat} {l : List SnapE} (h : SnapsAt Q w a n l) (hb : Below w.heap.size w w') : SnapsAt Q w' a n l := by
  refine ⟨h.1, fun hn => ?_⟩
  obtain ⟨b, off, rfl, hlt, hq, hc⟩ := h.2 hn
  refine ⟨b, off, rfl, Nat.lt_of_lt_of_le hlt hb.size, hq, fun i hi => ?_⟩
  obtain ⟨fa, fn, fc, hs⟩ := hc i hi
  exact ⟨fa, fn, fc, hs.below hb⟩
theorem SnapsAt.weaken {Q R : Nat → Prop} {w : World} {a : Option Addr} {n : Nat} {l : List SnapE} (h : SnapsAt Q w a n l) (hq : ∀ b, b < w.heap.size → Q b → R b) : SnapsAt R w a n l := by
  refine ⟨h.1, fun hn => ?_⟩
  obtain ⟨b, off, rfl, hlt, q, hc⟩ := h.2 hn
  refine ⟨b, off, rfl, hlt, hq b hlt q, fun i hi => ?_⟩
  obtain ⟨fa, fn, fc, hs⟩ := hc i hi
  exact ⟨fa, fn, fc, hs.weaken hq⟩
theorem SnapsAt.kept {Q : Nat → Prop} {g : Nat} {w w' : World} {a : Option Addr} {n : Nat} {l : List SnapE} (h : SnapsAt Q w a n l) (hq : ∀ b, Q b → b ≠ g) (hk : Kept g w w') : SnapsAt Q w' a n l := by
  refine ⟨h.1, fun hn => ?_⟩
  obtain ⟨b, off, rfl, hlt, q, hc⟩ := h.2 hn
  refine ⟨b, off, rfl, by rw [hk.size]; exact hlt, q, fun i hi => ?_⟩
  obtain ⟨fa, fn, fc, hs⟩ := hc i hi
  exact ⟨fa, fn, fc, hs.kept (hq b q) hq hk⟩
theorem SnapsAt.snap {Q : Nat → Prop} {w : World} {b off n : Nat} {l : List SnapE} (h : SnapsAt Q w (some ⟨b, off, none⟩) n l) {i : Nat} (hi : i < n) : ∃ fa fn fc, SnapAt Q w b (off + i * 2) (l.getD i SnapE.zero) fa fn fc := by
  obtain ⟨b', off', e, _, _, hc⟩ := h.2 (by omega)
  simp only [Option.some.injEq, Addr.mk.injEq, and_true] at e
  obtain ⟨rfl, rfl⟩ := e
  exact hc i hi

/-- a set -/
structure SetE where
  name : ByteArray
  files : List Ent
  snaps : List SnapE
/-- a set's value: its name, where its lists lie -/
structure SetV where
  name : ByteArray
  fa : Option Addr
  fn : Nat
  fc : Nat
  sa : Option Addr
  sn : Nat
  sc : Nat
def SetV.val (v : SetV) : Value := .agg #[.string v.name, .slice v.fa v.fn v.fc, .slice v.sa v.sn v.sc]
/-- what a set's value holds -/
structure SetAt (Q : Nat → Prop) (w : World) (v : SetV) (x : SetE) : Prop where
  name : v.name = x.name
  small : x.name.size ≤ maxLen
  files : EntsAt Q w v.fa v.fn x.files
  snaps : SnapsAt Q w v.sa v.sn x.snaps
  caps : v.fn ≤ v.fc ∧ v.sn ≤ v.sc
theorem SetAt.below {Q : Nat → Prop} {w w' : World} {v : SetV} {x : SetE} (h : SetAt Q w v x) (hb : Below w.heap.size w w') : SetAt Q w' v x := ⟨h.name, h.small, h.files.below hb, h.snaps.below hb, h.caps⟩
theorem SetAt.kept {Q : Nat → Prop} {g : Nat} {w w' : World} {v : SetV} {x : SetE} (h : SetAt Q w v x) (hq : ∀ b, Q b → b ≠ g) (hk : Kept g w w') : SetAt Q w' v x := ⟨h.name, h.small, h.files.kept hq hk, h.snaps.kept hq hk, h.caps⟩
theorem SetAt.weaken {Q R : Nat → Prop} {w : World} {v : SetV} {x : SetE} (h : SetAt Q w v x) (hq : ∀ b, b < w.heap.size → Q b → R b) : SetAt R w v x := ⟨h.name, h.small, h.files.weaken hq, h.snaps.weaken hq, h.caps⟩

/-- an ask -/
structure AskE where
  kind : Int
  set : ByteArray
  file : ByteArray
  to : ByteArray
  pos : Int
  num : Int
  bytes : List Int
def AskE.zero : AskE := ⟨0, ByteArray.empty, ByteArray.empty, ByteArray.empty, 0, 0, []⟩
instance : Inhabited AskE := ⟨AskE.zero⟩
def AskE.ok (x : AskE) : Prop := (x.set.size ≤ maxLen ∧ x.file.size ≤ maxLen ∧ x.to.size ≤ maxLen) ∧ (-9223372036854775808 ≤ x.kind ∧ x.kind ≤ 9223372036854775807) ∧ (-9223372036854775808 ≤ x.pos ∧ x.pos ≤ 9223372036854775807) ∧ (-9223372036854775808 ≤ x.num ∧ x.num ≤ 9223372036854775807)
/-- an ask's value -/
def AskE.val (x : AskE) (ba : Option Addr) (bn bc : Nat) : Value := .agg #[.int .i64 x.kind, .string x.set, .string x.file, .string x.to, .int .i64 x.pos, .int .i64 x.num, .slice ba bn bc]
/-- an ask in memory, seven cells -/
structure AskAt (w : World) (b off : Nat) (x : AskE) (ba : Option Addr) (bn bc : Nat) : Prop where
  c0 : w.cell? ⟨b, off, none⟩ = some (.int .i64 x.kind)
  c1 : w.cell? ⟨b, off + 1, none⟩ = some (.string x.set)
  c2 : w.cell? ⟨b, off + 2, none⟩ = some (.string x.file)
  c3 : w.cell? ⟨b, off + 3, none⟩ = some (.string x.to)
  c4 : w.cell? ⟨b, off + 4, none⟩ = some (.int .i64 x.pos)
  c5 : w.cell? ⟨b, off + 5, none⟩ = some (.int .i64 x.num)
  c6 : w.cell? ⟨b, off + 6, none⟩ = some (.slice ba bn bc)
  bytes : NumsAt (fun _ => True) .u8 w ba bn x.bytes
  ok : x.ok
  caps : bn ≤ bc
theorem AskAt.below {w w' : World} {b off : Nat} {x : AskE} {ba : Option Addr} {bn bc : Nat} (h : AskAt w b off x ba bn bc) (hb : Below w.heap.size w w') : AskAt w' b off x ba bn bc := by
  have hlt := cell_lt h.c0
  exact ⟨(hb.cell (p := ⟨b, off, none⟩) hlt).trans h.c0, (hb.cell (p := ⟨b, off + 1, none⟩) hlt).trans h.c1, (hb.cell (p := ⟨b, off + 2, none⟩) hlt).trans h.c2, (hb.cell (p := ⟨b, off + 3, none⟩) hlt).trans h.c3, (hb.cell (p := ⟨b, off + 4, none⟩) hlt).trans h.c4, (hb.cell (p := ⟨b, off + 5, none⟩) hlt).trans h.c5, (hb.cell (p := ⟨b, off + 6, none⟩) hlt).trans h.c6, h.bytes.below hb, h.ok, h.caps⟩
/-- what a slice of asks holds -/
def AsksAt (w : World) (a : Option Addr) (n : Nat) (l : List AskE) : Prop :=
  l.length = n ∧ (0 < n → ∃ b off, a = some ⟨b, off, none⟩ ∧ b < w.heap.size ∧ ∀ i, i < n → ∃ ba bn bc, AskAt w b (off + i * 7) (l.getD i AskE.zero) ba bn bc)
theorem AsksAt.below {w w' : World} {a : Option Addr} {n : Nat} {l : List AskE} (h : AsksAt w a n l) (hb : Below w.heap.size w w') : AsksAt w' a n l := by
  refine ⟨h.1, fun hn => ?_⟩
  obtain ⟨b, off, rfl, hlt, hc⟩ := h.2 hn
  refine ⟨b, off, rfl, Nat.lt_of_lt_of_le hlt hb.size, fun i hi => ?_⟩
  obtain ⟨ba, bn, bc, hs⟩ := hc i hi
  exact ⟨ba, bn, bc, hs.below hb⟩
end Go.Proofs.YtnmcgmpmcliinaaGreat

namespace Go.Proofs.YtnmcgmpmcliinaaGreat

/-- a name's letters -/
def Ent.nm (x : Ent) : List UInt8 := x.name.data.toList
def SnapE.nm (x : SnapE) : List UInt8 := x.name.data.toList
/-- is it a name? -/
def isLetter (c : UInt8) : Prop := (97 ≤ c ∧ c ≤ 122) ∨ (48 ≤ c ∧ c ≤ 57)
def IsName (s : ByteArray) : Prop := 1 ≤ s.data.toList.length ∧ s.data.toList.length ≤ 8 ∧ ∀ c ∈ s.data.toList, isLetter c

theorem bytes_eq {a b : ByteArray} (h : a.data.toList = b.data.toList) : a = b := by
  cases a; cases b
  simp only [ByteArray.mk.injEq]
  exact Array.toList_inj.1 h

/-- in the order of their names -/
def InOrder (l : List Ent) : Prop := l.Pairwise fun a b => a.nm < b.nm
def SnapsInOrder (l : List SnapE) : Prop := l.Pairwise fun a b => a.nm < b.nm

theorem ordered_ext {α : Type} (f : α → List UInt8) : ∀ {l m : List α}, l.Pairwise (fun a b => f a < f b) → m.Pairwise (fun a b => f a < f b) → (∀ x, x ∈ l ↔ x ∈ m) → l = m
  | [], [], _, _, _ => rfl
  | [], y :: m, _, _, h => absurd ((h y).2 (by simp)) (by simp)
  | x :: l, [], _, _, h => absurd ((h x).1 (by simp)) (by simp)
  | x :: l, y :: m, hl, hm, h => by
    rw [List.pairwise_cons] at hl hm
    have hxy : x = y := by
      have h1 := (h x).1 (by simp)
      have h2 := (h y).2 (by simp)
      rcases List.mem_cons.1 h1 with e | h1
      · exact e
      rcases List.mem_cons.1 h2 with e | h2
      · exact e.symm
      exact absurd (hl.1 y h2) (List.lt_asymm (hm.1 x h1))
    subst hxy
    have hx1 : ∀ z ∈ l, z ≠ x := fun z hz e => by subst e; exact absurd (hl.1 z hz) (List.lt_irrefl _)
    have hx2 : ∀ z ∈ m, z ≠ x := fun z hz e => by subst e; exact absurd (hm.1 z hz) (List.lt_irrefl _)
    rw [ordered_ext f hl.2 hm.2 fun z => ?_]
    constructor
    · intro hz
      exact (List.mem_cons.1 ((h z).1 (List.mem_cons_of_mem _ hz))).resolve_left (hx1 z hz)
    · intro hz
      exact (List.mem_cons.1 ((h z).2 (List.mem_cons_of_mem _ hz))).resolve_left (hx2 z hz)
theorem ordered_one {α : Type} (f : α → List UInt8) {l : List α} (h : l.Pairwise fun a b => f a < f b) {x y : α} (hx : x ∈ l) (hy : y ∈ l) (e : f x = f y) : x = y := by
  induction l with
  | nil => simp at hx
  | cons z l ih =>
    rw [List.pairwise_cons] at h
    rcases List.mem_cons.1 hx with e1 | h1
    · rcases List.mem_cons.1 hy with e2 | h2
      · rw [e1, e2]
      · have := h.1 y h2
        rw [← e1, e] at this
        exact absurd this (List.lt_irrefl _)
    · rcases List.mem_cons.1 hy with e2 | h2
      · have := h.1 x h1
        rw [← e2, e] at this
        exact absurd this (List.lt_irrefl _)
      · exact ih h.2 h1 h2

/-- roots -/
def rootsE (l : List Ent) : List Int := l.map (·.root)
def rootsS (l : List SnapE) : List Int := l.flatMap fun s => rootsE s.files
def rootsX (x : SetE) : List Int := rootsE x.files ++ rootsS x.snaps
theorem rootsE_append (l m : List Ent) : rootsE (l ++ m) = rootsE l ++ rootsE m := List.map_append
theorem rootsS_append (l m : List SnapE) : rootsS (l ++ m) = rootsS l ++ rootsS m := List.flatMap_append
theorem mem_rootsE {l : List Ent} {x : Int} : x ∈ rootsE l ↔ ∃ f ∈ l, f.root = x := by simp [rootsE]

/-- right entries -/
structure FilesOk (n : Nat) (B : Nat → Blk) (key : Int) (l : List Ent) : Prop where
  few : l.length ≤ 6
  names : ∀ x ∈ l, IsName x.name
  order : InOrder l
  files : ∀ x ∈ l, FileOk n B key x.root x.size
/-- a right set -/
structure SetOk (n : Nat) (B : Nat → Blk) (key : Int) (x : SetE) : Prop where
  kb : 0 ≤ key ∧ key ≤ 1000
  right : Right n B
  name : IsName x.name
  files : FilesOk n B key x.files
  fewS : x.snaps.length ≤ 3
  namesS : ∀ s ∈ x.snaps, IsName s.name
  orderS : SnapsInOrder x.snaps
  filesS : ∀ s ∈ x.snaps, FilesOk n B key s.files

theorem FilesOk.stays {n : Nat} {B C : Nat → Blk} {key : Int} {l : List Ent} {L : List Int} (h : FilesOk n B key l) (hC : Right n C) (hs : Stays n B C L) (hl : ∀ x ∈ l, x.root ∈ L) : FilesOk n C key l :=
  ⟨h.few, h.names, h.order, fun x hx => ((h.files x hx).stays hC hs (hl x hx)).1⟩
theorem FileOk.rootBd {n : Nat} {B : Nat → Blk} {key r s : Int} (h : FileOk n B key r s) : r = 0 ∨ (1 ≤ r ∧ r ≤ n) := by
  rcases h.rooted with h0 | ⟨⟨h1, h2, _⟩, _⟩
  · exact .inl h0
  · exact .inr ⟨h1, h2⟩
theorem SetOk.rootBd {n : Nat} {B : Nat → Blk} {key : Int} {x : SetE} (h : SetOk n B key x) : ∀ r ∈ rootsX x, r = 0 ∨ (1 ≤ r ∧ r ≤ n) := fun r hr => by
  rcases List.mem_append.1 hr with hr | hr
  · obtain ⟨f, hf, rfl⟩ := mem_rootsE.1 hr
    exact (h.files.files f hf).rootBd
  · obtain ⟨s, hs, hr⟩ := List.mem_flatMap.1 hr
    obtain ⟨f, hf, rfl⟩ := mem_rootsE.1 hr
    exact ((h.filesS s hs).files f hf).rootBd
end Go.Proofs.YtnmcgmpmcliinaaGreat

namespace Go.Proofs.YtnmcgmpmcliinaaGreat

/-- all entries of a set, the snaps' too -/
def entsX (x : SetE) : List Ent := x.files ++ x.snaps.flatMap (·.files)
theorem rootsX_eq (x : SetE) : rootsX x = rootsE (entsX x) := by
  unfold rootsX entsX rootsS
  rw [rootsE_append]
  congr 1
  unfold rootsE
  rw [List.map_flatMap]
theorem SetOk.ents {n : Nat} {B : Nat → Blk} {key : Int} {x : SetE} (h : SetOk n B key x) : ∀ e ∈ entsX x, FileOk n B key e.root e.size := fun e he => by
  rcases List.mem_append.1 he with he | he
  · exact h.files.files e he
  · obtain ⟨s, hs, he⟩ := List.mem_flatMap.1 he
    exact (h.filesS s hs).files e he
/-- a set's names and orders, all but its files -/
structure Shape (x : SetE) : Prop where
  name : IsName x.name
  few : x.files.length ≤ 6
  names : ∀ e ∈ x.files, IsName e.name
  order : InOrder x.files
  fewS : x.snaps.length ≤ 3
  namesS : ∀ s ∈ x.snaps, IsName s.name
  orderS : SnapsInOrder x.snaps
  filesS : ∀ s ∈ x.snaps, s.files.length ≤ 6 ∧ (∀ e ∈ s.files, IsName e.name) ∧ InOrder s.files
theorem SetOk.shape {n : Nat} {B : Nat → Blk} {key : Int} {x : SetE} (h : SetOk n B key x) : Shape x :=
  ⟨h.name, h.files.few, h.files.names, h.files.order, h.fewS, h.namesS, h.orderS, fun s hs => ⟨(h.filesS s hs).few, (h.filesS s hs).names, (h.filesS s hs).order⟩⟩
theorem setOk_of {n : Nat} {B : Nat → Blk} {key : Int} {x : SetE} (hk : 0 ≤ key ∧ key ≤ 1000) (hB : Right n B) (h : Shape x) (hf : ∀ e ∈ entsX x, FileOk n B key e.root e.size) : SetOk n B key x :=
  ⟨hk, hB, h.name, ⟨h.few, h.names, h.order, fun e he => hf e (List.mem_append_left _ he)⟩, h.fewS, h.namesS, h.orderS, fun s hs => ⟨(h.filesS s hs).1, (h.filesS s hs).2.1, (h.filesS s hs).2.2, fun e he => hf e (List.mem_append_right _ (List.mem_flatMap.2 ⟨s, hs, he⟩))⟩⟩
theorem SetOk.bytes {n : Nat} {B C : Nat → Blk} {key : Int} {x : SetE} (h : SetOk n B key x) {L : List Int} (hC : Right n C) (hs : Stays n B C L) (hl : ∀ r ∈ rootsX x, r ∈ L) : SetOk n C key x ∧ ∀ e ∈ entsX x, fileL key (leafAt C 3 e.root) = fileL key (leafAt B 3 e.root) := by
  have hm : ∀ e ∈ entsX x, e.root ∈ L := fun e he => hl _ (by rw [rootsX_eq]; exact mem_rootsE.2 ⟨e, he, rfl⟩)
  exact ⟨setOk_of h.kb hC h.shape fun e he => ((h.ents e he).stays hC hs (hm e he)).1, fun e he => ((h.ents e he).stays hC hs (hm e he)).2⟩

/-- what is left of a right set when roots were held besides and others let go -/
structure After (n : Nat) (key : Int) (B D : Nat → Blk) (x y : SetE) : Prop where
  ok : SetOk n D key y
  held : HeldR n D (rootsX y)
  moved : Moved n B D (rootsX x) (rootsX y)
  same : ∀ e ∈ entsX x, e ∈ entsX y → fileL key (leafAt D 3 e.root) = fileL key (leafAt B 3 e.root)
theorem after_refl {n : Nat} {key : Int} {B : Nat → Blk} {x : SetE} (h : SetOk n B key x) (hh : HeldR n B (rootsX x)) : After n key B B x x := ⟨h, hh, moved_refl h.right, fun _ _ _ => rfl⟩
theorem after_of {n : Nat} {key : Int} {B C D : Nat → Blk} {x y : SetE} {K T : List Int} (hx : SetOk n B key x) (hh : HeldR n B (rootsX x)) (hg : Grow n B C K) (hD : Right n D) (hF : Fell n C D T)
    (hc : ∀ r : Int, r ≠ 0 → (rootsX y).count r + T.count r = (rootsX x).count r + K.count r) (hy : Shape y) (hf : ∀ e ∈ entsX y, FileOk n C key e.root e.size) : After n key B D x y ∧ ∀ e ∈ entsX y, fileL key (leafAt D 3 e.root) = fileL key (leafAt C 3 e.root) := by
  obtain ⟨hm, hst⟩ := moved_of hx.right hh hg hD hF hc
  have hhd := hm.held hh
  have hb : ∀ r ∈ rootsX y, r = 0 ∨ (1 ≤ r ∧ r ≤ n) := fun r hr => by
    rw [rootsX_eq] at hr
    obtain ⟨e, he, rfl⟩ := mem_rootsE.1 hr
    exact (hf e he).rootBd
  have hro : RootsOk n D (rootsX y) := held_roots hhd (fun _ h => h) hb
  have hs := stays_fell hD hF hro
  have hfd := fun e (he : e ∈ entsX y) => (hf e he).stays hD hs (by rw [rootsX_eq]; exact mem_rootsE.2 ⟨e, he, rfl⟩)
  refine ⟨⟨setOk_of hx.kb hD hy fun e he => (hfd e he).1, hhd, hm, fun e he he' => ?_⟩, fun e he => (hfd e he).2⟩
  rw [(hfd e he').2]
  exact ((hx.ents e he).ext hg.ext hg.right).2
/-- entries that were there are right files still where roots are held besides -/
theorem grow_files {n : Nat} {key : Int} {B C : Nat → Blk} {x : SetE} {K : List Int} (hx : SetOk n B key x) (hg : Grow n B C K) : ∀ e ∈ entsX x, FileOk n C key e.root e.size := fun e he => ((hx.ents e he).ext hg.ext hg.right).1

/-- lists in order -/
theorem ordered_insert {α : Type} {f : α → List UInt8} {l : List α} (h : l.Pairwise fun a b => f a < f b) {p : Nat} {x : α} (h1 : ∀ y ∈ l.take p, f y < f x) (h2 : ∀ y ∈ l.drop p, f x < f y) : (l.take p ++ x :: l.drop p).Pairwise fun a b => f a < f b := by
  rw [List.pairwise_append, List.pairwise_cons]
  refine ⟨h.sublist (List.take_sublist _ _), ⟨h2, h.sublist (List.drop_sublist _ _)⟩, fun a ha b hb => ?_⟩
  rcases List.mem_cons.1 hb with rfl | hb
  · exact h1 a ha
  · exact List.lt_trans (h1 a ha) (h2 b hb)
theorem ordered_erase {α : Type} {f : α → List UInt8} {l : List α} (h : l.Pairwise fun a b => f a < f b) (p : Nat) : (l.eraseIdx p).Pairwise fun a b => f a < f b := h.sublist (List.eraseIdx_sublist _ _)
theorem ordered_set {α : Type} {f : α → List UInt8} {l : List α} (h : l.Pairwise fun a b => f a < f b) {p : Nat} (hp : p < l.length) {x : α} (e : f x = f l[p]) : (l.set p x).Pairwise fun a b => f a < f b := by
  rw [List.pairwise_iff_getElem] at h ⊢
  intro i j hi hj hij
  simp only [List.length_set] at hi hj
  have := h i j hi hj hij
  simp only [List.getElem_set]
  by_cases e1 : p = i
  · subst e1
    rw [if_pos rfl, if_neg (by omega), e]
    exact this
  · rw [if_neg e1]
    by_cases e2 : p = j
    · subst e2; rw [if_pos rfl, e]; exact this
    · rw [if_neg e2]; exact this
theorem count_insert {l : List Ent} (p : Nat) (x : Ent) (r : Int) : (rootsE (l.take p ++ x :: l.drop p)).count r = (rootsE l).count r + [x.root].count r := by
  have e : rootsE l = rootsE (l.take p) ++ rootsE (l.drop p) := by rw [← rootsE_append, List.take_append_drop]
  rw [e, rootsE_append]
  show (rootsE (l.take p) ++ x.root :: rootsE (l.drop p)).count r = _
  simp only [List.count_append, List.count_cons, List.count_nil]
  omega
theorem count_erase {l : List Ent} {p : Nat} (hp : p < l.length) (r : Int) : (rootsE (l.eraseIdx p)).count r + [(l[p]).root].count r = (rootsE l).count r := by
  have e : l = l.take p ++ l[p] :: l.drop (p + 1) := by rw [List.getElem_cons_drop, List.take_append_drop]
  have e2 : rootsE l = rootsE (l.take p) ++ (l[p].root :: rootsE (l.drop (p + 1))) := by
    conv => lhs; rw [e]
    rw [rootsE_append]; rfl
  rw [List.eraseIdx_eq_take_drop_succ, rootsE_append, e2]
  simp only [List.count_append, List.count_cons, List.count_nil]
  omega
theorem count_set {l : List Ent} {p : Nat} (hp : p < l.length) (x : Ent) (r : Int) : (rootsE (l.set p x)).count r + [(l[p]).root].count r = (rootsE l).count r + [x.root].count r := by
  have e : l = l.take p ++ l[p] :: l.drop (p + 1) := by rw [List.getElem_cons_drop, List.take_append_drop]
  have e2 : rootsE l = rootsE (l.take p) ++ (l[p].root :: rootsE (l.drop (p + 1))) := by
    conv => lhs; rw [e]
    rw [rootsE_append]; rfl
  rw [List.set_eq_take_append_cons_drop, if_pos hp, rootsE_append, e2]
  show (rootsE (l.take p) ++ x.root :: rootsE (l.drop (p + 1))).count r + _ = _
  simp only [List.count_append, List.count_cons, List.count_nil]
  omega
end Go.Proofs.YtnmcgmpmcliinaaGreat
