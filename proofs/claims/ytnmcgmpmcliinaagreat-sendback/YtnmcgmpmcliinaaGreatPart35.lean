/-
  SndA, SndB, SndC in one text. Nothing here is trusted.
-/
import Derived.Test.YtnmcgmpmcliinaaGreatPart31
import Derived.Test.YtnmcgmpmcliinaaGreatPart12
import Derived.Test.YtnmcgmpmcliinaaGreatPart34
set_option linter.unusedVariables false
namespace Go.Proofs.YtnmcgmpmcliinaaGreat
open Go.RowKit

theorem clo_or {B : Nat → Blk} {l m : List Int} {x : Int} (h : Clo B (l ++ m) x) : Clo B l x ∨ Clo B m x :=
  h (fun y => Clo B l y ∨ Clo B m y) (fun r hr h0 => by
    rcases List.mem_append.1 hr with h | h
    · exact .inl (Clo.root h h0)
    · exact .inr (Clo.root h h0)) (fun y hy k hk h0 => hy.imp (fun f => f.kid hk h0) (fun f => f.kid hk h0))
theorem Stays.back {n : Nat} {B C : Nat → Blk} {l : List Int} (h : Stays n B C l) {x : Int} (hx : Clo C l x) : Clo B l x :=
  hx (fun y => Clo B l y) (fun r hr h0 => Clo.root hr h0) (fun y hy k hk h0 => hy.kid (by rw [← (h y hy).2.2.1]; exact hk) h0)
/-- a root of level 3 and all above level 0 that it reaches -/
def up3 (D : Nat → Blk) (r : Int) : List Int := r :: (kidsL D r ++ (kidsL D r).flatMap (kidsL D))
theorem up3_len {n : Nat} {D : Nat → Blk} {r : Int} (hR : Right n D) (h : Root n D 3 r) : (up3 D r).length ≤ 21 := by
  have h1 := h.len hR
  have h2 : ∀ l : List Int, (∀ x ∈ l, Root n D 2 x) → (l.flatMap (kidsL D)).length = l.length * 4 := by
    intro l
    induction l with
    | nil => intro _; rfl
    | cons x l ih =>
      intro hl
      rw [List.flatMap_cons, List.length_append, ih fun y hy => hl y (List.mem_cons_of_mem _ hy), (hl x List.mem_cons_self).len hR, List.length_cons]
      omega
  have h3 := h2 _ (fun x hx => h.kid hR hx)
  simp only [up3, List.length_cons, List.length_append]
  omega
theorem kidsL_of {D : Nat → Blk} {y : Int} (h : y ≠ 0) : kidsL D y = (D (y - 1).toNat).kids := by unfold kidsL; rw [if_neg h]
theorem clo_up {n : Nat} {D : Nat → Blk} {S : List Int} (hR : Right n D) (hS : ∀ r ∈ S, Root n D 3 r) {x : Int} (h : Clo D S x) : x ≠ 0 ∧ (Root n D 0 x ∨ x ∈ S.flatMap (up3 D)) := by
  have h' := h (fun y => y ≠ 0 ∧ ((Root n D 0 y) ∨ (∃ r ∈ S, y = r ∨ (Root n D 2 y ∧ y ∈ kidsL D r) ∨ (Root n D 1 y ∧ ∃ q ∈ kidsL D r, y ∈ kidsL D q))))
    (fun r hr h0 => ⟨h0, .inr ⟨r, hr, .inl rfl⟩⟩) (fun y hy k hk h0 => ⟨h0, by
      obtain ⟨hy0, hy⟩ := hy
      rw [← kidsL_of hy0] at hk
      rcases hy with hy | ⟨r, hr, hy | ⟨hy1, hy2⟩ | ⟨hy1, q, hq, hy2⟩⟩
      · exfalso
        rcases hy with hy | ⟨hy, hl⟩
        · exact hy0 hy
        · obtain ⟨h1, h2, h3⟩ := hy
          rw [kidsL_of hy0] at hk
          obtain ⟨m, rfl⟩ : ∃ m : Nat, y = (m : Int) + 1 := ⟨(y - 1).toNat, by omega⟩
          have e : ((m : Int) + 1 - 1).toNat = m := by omega
          rw [e] at hk hl
          have hn := ((hR.one m (by omega)).live hk).2.2.1
          omega
      · exact .inr ⟨r, hr, .inr (.inl ⟨(hS r hr).kid hR (hy ▸ hk), hy ▸ hk⟩)⟩
      · exact .inr ⟨r, hr, .inr (.inr ⟨hy1.kid hR hk, y, hy2, hk⟩)⟩
      · exact .inl (hy1.kid hR hk)⟩)
  refine ⟨h'.1, ?_⟩
  rcases h'.2 with h | ⟨r, hr, h⟩
  · exact .inl h
  · refine .inr (List.mem_flatMap.2 ⟨r, hr, ?_⟩)
    unfold up3
    rcases h with h | ⟨_, h⟩ | ⟨_, q, hq, h⟩
    · rw [h]; exact List.mem_cons_self
    · exact List.mem_cons_of_mem _ (List.mem_append_left _ h)
    · exact List.mem_cons_of_mem _ (List.mem_append_right _ (List.mem_flatMap.2 ⟨q, hq, h⟩))
theorem count_le_succ (L : List Int) (m : Int) : L.countP (fun a => decide (a ≤ m)) + L.count (m + 1) ≤ L.countP (fun a => decide (a ≤ m + 1)) := by
  induction L with
  | nil => simp
  | cons a L ih =>
    rw [List.countP_cons, List.countP_cons, List.count_cons]
    have e1 : (if decide (a ≤ m) = true then 1 else 0) + (if (a == m + 1) = true then 1 else 0) ≤ (if decide (a ≤ m + 1) = true then 1 else 0) := by
      by_cases h1 : a ≤ m
      · have h2 : ¬ a = m + 1 := by omega
        have h3 : a ≤ m + 1 := by omega
        simp [h1, h2, h3]
      · by_cases h2 : a = m + 1
        · subst h2
          simp [h1]
        · simp [h1, h2]
    omega
theorem sumTo_few {f g : Nat → Nat} {L : List Int} : ∀ {n : Nat}, (∀ j, j < n → f j ≤ g j ∨ (((j : Int) + 1) ∈ L ∧ f j ≤ 4)) → sumTo f n ≤ sumTo g n + 4 * L.countP (fun a => decide (a ≤ (n : Int)))
  | 0, _ => by simp [sumTo]
  | n + 1, h => by
    have h1 := sumTo_few (n := n) (fun j hj => h j (by omega))
    have h2 := count_le_succ L (n : Int)
    have e : L.countP (fun a => decide (a ≤ ((n + 1 : Nat) : Int))) = L.countP (fun a => decide (a ≤ (n : Int) + 1)) := by push_cast; rfl
    rw [e]
    show sumTo f n + f n ≤ sumTo g n + g n + _
    rcases h n (by omega) with h3 | ⟨h3, h4⟩
    · omega
    · have := List.count_pos_iff.2 h3
      omega
/-- behind whatever was done to a few files nothing is held much more often -/
theorem Moved.few {n : Nat} {B D : Nat → Blk} {R S : List Int} (h : Moved n B D R S) (hS : ∀ r ∈ S, Root n D 3 r) (hl : S.length ≤ 6) : ∀ k, k < n → (D k).refs ≤ (B k).refs + 510 := by
  intro k hk
  have hR := h.right
  have ho := h.out k hk
  have hlen : (S.flatMap (up3 D)).length ≤ 21 * S.length := by
    have : ∀ l : List Int, (∀ r ∈ l, Root n D 3 r) → (l.flatMap (up3 D)).length ≤ 21 * l.length := by
      intro l
      induction l with
      | nil => intro _; simp
      | cons x l ih =>
        intro hl
        have h1 := ih fun y hy => hl y (List.mem_cons_of_mem _ hy)
        have h2 := up3_len hR (hl x List.mem_cons_self)
        rw [List.flatMap_cons, List.length_append, List.length_cons]
        omega
    exact this S hS
  have hall := all_reached hR (l := baseL n D S ++ S) (fun m hm hpos => by
    by_cases hc : 0 < outs n D m - (S.count ((m : Int) + 1) : Int)
    · exact List.mem_append_left _ (mem_baseL.2 ⟨m, hm, hc, rfl⟩)
    · exact List.mem_append_right _ (List.count_pos_iff.1 (by omega)))
  have hsum := sumTo_few (f := fun i => (D i).kids.count ((k : Int) + 1)) (g := fun i => (B i).kids.count ((k : Int) + 1)) (L := S.flatMap (up3 D)) (n := n) (fun j hj => by
    by_cases hz : (D j).kids.count ((k : Int) + 1) = 0
    · left; omega
    · have hm : ((k : Int) + 1) ∈ (D j).kids := List.count_pos_iff.1 (by omega)
      obtain ⟨k1, k2, k3⟩ := kid_of hR hj hm
      have e : (((j : Int) + 1) - 1).toNat = j := by omega
      rcases clo_or (hall j hj k3) with hc | hc
      · left
        rw [h.base] at hc
        have h1 := (h.stays _ (h.stays.back hc)).2.2.1
        rw [e] at h1
        rw [h1]
        exact Nat.le_refl _
      · right
        obtain ⟨_, h2⟩ := clo_up hR hS hc
        refine ⟨?_, ?_⟩
        · rcases h2 with h2 | h2
          · exfalso
            rcases h2 with h2 | ⟨_, h2⟩
            · omega
            · rw [e] at h2
              have := (hR.one k hk).bounds.2.2.1
              omega
          · exact h2
        · have h4 : (D j).kids.length ≤ 4 := (hR.one j hj).few
          exact Nat.le_trans List.count_le_length h4)
  have hcp : (S.flatMap (up3 D)).countP (fun a => decide (a ≤ (n : Int))) ≤ (S.flatMap (up3 D)).length := List.countP_le_length
  have hcS : S.count ((k : Int) + 1) ≤ S.length := List.count_le_length
  have e1 : (among n D ((k : Int) + 1) : Nat) = sumTo (fun i => (D i).kids.count ((k : Int) + 1)) n := rfl
  have e2 : (among n B ((k : Int) + 1) : Nat) = sumTo (fun i => (B i).kids.count ((k : Int) + 1)) n := rfl
  unfold outs at ho
  omega
end Go.Proofs.YtnmcgmpmcliinaaGreat

namespace Go.Proofs.YtnmcgmpmcliinaaGreat
open Go.RowKit

/-- among these files one of that name, of that size, with these 256 bytes -/
def Fil (key : Int) (B : Nat → Blk) (l : List Ent) (nm : List UInt8) (s : Int) (W : List Int) : Prop := ∃ e ∈ l, e.nm = nm ∧ e.size = s ∧ fileL key (leafAt B 3 e.root) = W
/-- at other names nothing has changed -/
def Others (key : Int) (B D : Nat → Blk) (x y : SetE) (nm : List UInt8) : Prop := ∀ m s W, m ≠ nm → (Fil key B x.files m s W ↔ Fil key D y.files m s W)
def NoFile (l : List Ent) (nm : List UInt8) : Prop := ¬ ∃ f ∈ l, f.nm = nm
theorem Fil.has {key : Int} {B : Nat → Blk} {l : List Ent} {nm : List UInt8} {s : Int} {W : List Int} (h : Fil key B l nm s W) : ∃ f ∈ l, f.nm = nm := by
  obtain ⟨e, he, h1, _⟩ := h
  exact ⟨e, he, h1⟩
theorem Fil.one {key : Int} {B : Nat → Blk} {l : List Ent} {nm : List UInt8} {s t : Int} {W V : List Int} (ho : InOrder l) (h : Fil key B l nm s W) (g : Fil key B l nm t V) : s = t ∧ W = V := by
  obtain ⟨e, he, h1, h2, h3⟩ := h
  obtain ⟨f, hf, g1, g2, g3⟩ := g
  obtain rfl := ordered_one Ent.nm ho he hf (h1.trans g1.symm)
  exact ⟨h2.symm.trans g2, h3.symm.trans g3⟩
theorem Others.no {key : Int} {B D : Nat → Blk} {x y : SetE} {nm m : List UInt8} (h : Others key B D x y nm) (hm : m ≠ nm) : NoFile x.files m ↔ NoFile y.files m := by
  constructor
  · rintro hn ⟨f, hf, e⟩
    exact hn ((h m f.size _ hm).2 ⟨f, hf, e, rfl, rfl⟩).has
  · rintro hn ⟨f, hf, e⟩
    exact hn ((h m f.size _ hm).1 ⟨f, hf, e, rfl, rfl⟩).has

/-- what stands behind a Do: the set is right and held, its snaps are as they were, its files alone have moved -/
structure Nxt (n : Nat) (key : Int) (B D : Nat → Blk) (x y : SetE) : Prop where
  ok : SetOk n D key y
  held : HeldR n D (rootsX y)
  snaps : y.snaps = x.snaps
  moved : Moved n B D (rootsE x.files) (rootsE y.files)
theorem heldR_files {n : Nat} {B : Nat → Blk} {x : SetE} (h : HeldR n B (rootsX x)) : HeldR n B (rootsE x.files) := fun k hk => by
  have h1 := h k hk
  have h2 := count_files x ((k : Int) + 1)
  omega
theorem Nxt.few {n : Nat} {key : Int} {B D : Nat → Blk} {x y : SetE} (h : Nxt n key B D x y) : ∀ k, k < n → (D k).refs ≤ (B k).refs + 510 :=
  h.moved.few (fun r hr => by
    obtain ⟨e, he, rfl⟩ := mem_rootsE.1 hr
    exact (h.ok.ents e (List.mem_append_left _ he)).rooted) (by rw [length_rootsE]; exact h.ok.shape.few)
theorem nxt_refl {n : Nat} {key : Int} {B : Nat → Blk} {x : SetE} (hx : SetOk n B key x) (hh : HeldR n B (rootsX x)) : Nxt n key B B x x := ⟨hx, hh, rfl, moved_refl hx.right⟩
theorem Nxt.trans {n : Nat} {key : Int} {B C D : Nat → Blk} {x y z : SetE} (h : Nxt n key B C x y) (g : Nxt n key C D y z) : Nxt n key B D x z := ⟨g.ok, g.held, g.snaps.trans h.snaps, h.moved.trans g.moved⟩

/-- a Do that was done, and what it did to the set's files -/
theorem did_nxt {n : Nat} {B D : Nat → Blk} {key : Int} {x y : SetE} {a : AskE} {cc : Int} (hx : SetOk n B key x) (hh : HeldR n B (rootsX x)) (hb : Bytes a.bytes) (hc : ∀ k, k < n → (B k).refs ≤ cc) (hcc : cc + moreOf a + 24 ≤ 1000000) (h : Did n B key x a cc D y) (hs : y.snaps = x.snaps) : Nxt n key B D x y := by
  obtain ⟨C, made, hY, hD, hF⟩ := h
  have hch := hY.chg hx hb hc
  have hdone := hch.done hx hh hcc hD hF
  refine ⟨hdone.1.ok, hdone.1.held, hs, ?_⟩
  have hg2 := grow_moreB hch.grow.right hch.there (hch.room hcc)
  exact (moved_of hx.right (heldR_files hh) (hch.grow.trans hg2) hD hF (fun r _ => by
    have e : rootsX y = rootsE y.files ++ rootsS x.snaps := by unfold rootsX; rw [hs]
    rw [e]
    unfold rootsX
    simp only [List.count_append]
    omega)).1
theorem turning_snaps {x y : SetE} {nm : ByteArray} {root size ra rs : Int} (h : Turning x nm root size ra rs y) : y.snaps = x.snaps := by
  obtain ⟨p, ⟨_, _, _, _, rfl⟩ | ⟨_, _, _, _, _, _, rfl⟩⟩ := h <;> rfl
/-- a file turned: itself, and the others -/
theorem turned_files {n : Nat} {B C D : Nat → Blk} {key : Int} {x y : SetE} {nm : ByteArray} {N : Int → Int → List Int} {cc made : Int} (hx : SetOk n B key x) (hN : ∀ root size, (N root size).length ≤ 256 ∧ Bytes (N root size)) (h : Wrote n B C key x nm N cc made y) (hsame : ∀ e ∈ entsX y, fileL key (leafAt D 3 e.root) = fileL key (leafAt C 3 e.root)) (hg : Grow n B C [made]) :
    ∃ root size, ((∃ f ∈ x.files, f.nm = nm.data.toList ∧ root = f.root ∧ size = f.size) ∨ (NoFile x.files nm.data.toList ∧ root = 0 ∧ size = 0)) ∧ Fil key D y.files nm.data.toList ((N root size).length : Int) (padTo (N root size)) ∧ Others key B D x y nm.data.toList ∧ y.snaps = x.snaps := by
  obtain ⟨root, size, hok, hT, p, ht⟩ := h
  have hF := hT.file hok (hN root size).1 (hN root size).2
  have hkeep : ∀ e ∈ x.files, e ∈ y.files → fileL key (leafAt D 3 e.root) = fileL key (leafAt B 3 e.root) := fun e he hy =>
    (hsame e (List.mem_append_left _ hy)).trans ((hx.ents e (List.mem_append_left _ he)).ext hg.ext hg.right).2
  have hord := hx.shape.order
  rcases ht with ⟨hp, hpn, h1, h2, rfl⟩ | ⟨hno, h1, h2, h6, h3, h4, rfl⟩
  · have hpm := List.getElem_mem hp
    have hmem : ∀ e, e.nm ≠ nm.data.toList → (e ∈ x.files ↔ e ∈ x.files.set p ⟨x.files[p].name, made, ((N root size).length : Int)⟩) := fun e hne => by
      constructor
      · intro he
        obtain ⟨i, hi⟩ := List.getElem?_of_mem he
        have hip : p ≠ i := fun f => by
          subst f
          rw [List.getElem?_eq_getElem hp] at hi
          cases hi
          exact hne hpn
        exact List.mem_of_getElem? (i := i) (by rw [List.getElem?_set_ne hip]; exact hi)
      · intro he
        rcases mem_set_or he with rfl | he
        · exact absurd hpn hne
        · exact he
    have hself : (⟨x.files[p].name, made, ((N root size).length : Int)⟩ : Ent) ∈ x.files.set p ⟨x.files[p].name, made, ((N root size).length : Int)⟩ := List.mem_of_getElem? (i := p) (by rw [List.getElem?_set_self hp])
    refine ⟨root, size, .inl ⟨x.files[p], hpm, hpn, h1, h2⟩, ⟨_, hself, hpn, rfl, (hsame _ (List.mem_append_left _ hself)).trans hF.2.1⟩, fun m s W hm => ?_, rfl⟩
    constructor
    · rintro ⟨e, he, e1, e2, e3⟩
      have hy := (hmem e (by rw [e1]; exact hm)).1 he
      exact ⟨e, hy, e1, e2, (hkeep e he hy).trans e3⟩
    · rintro ⟨e, he, e1, e2, e3⟩
      have hxm := (hmem e (by rw [e1]; exact hm)).2 he
      exact ⟨e, hxm, e1, e2, (hkeep e hxm he).symm.trans e3⟩
  · have hself : (⟨nm, made, ((N root size).length : Int)⟩ : Ent) ∈ x.files.take p ++ ⟨nm, made, ((N root size).length : Int)⟩ :: x.files.drop p := mem_insert.2 (.inl rfl)
    refine ⟨root, size, .inr ⟨hno, h1, h2⟩, ⟨_, hself, rfl, rfl, (hsame _ (List.mem_append_left _ hself)).trans hF.2.1⟩, fun m s W hm => ?_, rfl⟩
    constructor
    · rintro ⟨e, he, e1, e2, e3⟩
      have hy : e ∈ x.files.take p ++ ⟨nm, made, ((N root size).length : Int)⟩ :: x.files.drop p := mem_insert.2 (.inr he)
      exact ⟨e, hy, e1, e2, (hkeep e he hy).trans e3⟩
    · rintro ⟨e, he, e1, e2, e3⟩
      rcases mem_insert.1 he with rfl | hxm
      · exact absurd e1.symm hm
      · exact ⟨e, hxm, e1, e2, (hkeep e hxm he).symm.trans e3⟩
/-- a file's size and bytes ahead, one that isn't there having none -/
def Was (key : Int) (B : Nat → Blk) (l : List Ent) (nm : List UInt8) (s : Int) (W : List Int) : Prop := Fil key B l nm s W ∨ (NoFile l nm ∧ s = 0 ∧ W = zeros 256)
theorem named_was {n : Nat} {B : Nat → Blk} {key root size : Int} {x : SetE} {nm : List UInt8} (hx : SetOk n B key x) (h : (∃ f ∈ x.files, f.nm = nm ∧ root = f.root ∧ size = f.size) ∨ (NoFile x.files nm ∧ root = 0 ∧ size = 0)) : Was key B x.files nm size (fileL key (leafAt B 3 root)) := by
  rcases h with ⟨f, hf, h1, rfl, rfl⟩ | ⟨h, rfl, rfl⟩
  · exact .inl ⟨f, hf, h1, rfl, rfl⟩
  · exact .inr ⟨h, rfl, (fileOk_zero (size := 0) hx.right hx.kb (by omega)).2⟩
theorem Was.one {key : Int} {B : Nat → Blk} {l : List Ent} {nm : List UInt8} {s t : Int} {W V : List Int} (ho : InOrder l) (h : Was key B l nm s W) (g : Was key B l nm t V) : s = t ∧ W = V := by
  rcases h with h | ⟨h1, rfl, rfl⟩ <;> rcases g with g | ⟨g1, rfl, rfl⟩
  · exact h.one ho g
  · exact absurd h.has g1
  · exact absurd g.has h1
  · exact ⟨rfl, rfl⟩
theorem did_write {n : Nat} {B D : Nat → Blk} {key : Int} {x y : SetE} {a : AskE} {cc : Int} (hx : SetOk n B key x) (hh : HeldR n B (rootsX x)) (hb : Bytes a.bytes) (hc : ∀ k, k < n → (B k).refs ≤ cc) (hcc : cc + moreOf a + 24 ≤ 1000000) (h : Did n B key x a cc D y) (hk : a.kind = 3) :
    Nxt n key B D x y ∧ Others key B D x y a.file.data.toList ∧ ∃ s W, Was key B x.files a.file.data.toList s W ∧ Fil key D y.files a.file.data.toList ((overL (W.take s.toNat) a.pos.toNat a.bytes).length : Int) (padTo (overL (W.take s.toNat) a.pos.toNat a.bytes)) := by
  have h0 := h
  obtain ⟨C, made, hY, hD, hF⟩ := h
  have hch := hY.chg hx hb hc
  have hdone := hch.done hx hh hcc hD hF
  rcases hY with ⟨_, hn, ho, hw⟩ | ⟨f, _⟩ | ⟨f, _, _⟩
  · obtain ⟨root, size, hnm, hfil, hoth, hsn⟩ := turned_files hx (over_bytes hb ho) hw hdone.2.1 hch.grow
    exact ⟨did_nxt hx hh hb hc hcc h0 hsn, hoth, size, _, named_was hx hnm, hfil⟩
  · omega
  · rcases f with ⟨f, _⟩ | ⟨f, _⟩ | ⟨f, _⟩ | ⟨f, _⟩ | ⟨f, _⟩ <;> omega
theorem did_cut {n : Nat} {B D : Nat → Blk} {key : Int} {x y : SetE} {a : AskE} {cc : Int} (hx : SetOk n B key x) (hh : HeldR n B (rootsX x)) (hb : Bytes a.bytes) (hc : ∀ k, k < n → (B k).refs ≤ cc) (hcc : cc + moreOf a + 24 ≤ 1000000) (h : Did n B key x a cc D y) (hk : a.kind = 4) :
    Nxt n key B D x y ∧ Others key B D x y a.file.data.toList ∧ ∃ s W, Was key B x.files a.file.data.toList s W ∧ Fil key D y.files a.file.data.toList ((W.take a.num.toNat).length : Int) (padTo (W.take a.num.toNat)) := by
  have h0 := h
  obtain ⟨C, made, hY, hD, hF⟩ := h
  have hch := hY.chg hx hb hc
  have hdone := hch.done hx hh hcc hD hF
  rcases hY with ⟨f, _⟩ | ⟨_, hn, ho, hw⟩ | ⟨f, _, _⟩
  · omega
  · obtain ⟨root, size, hnm, hfil, hoth, hsn⟩ := turned_files hx (cut_bytes ho) hw hdone.2.1 hch.grow
    exact ⟨did_nxt hx hh hb hc hcc h0 hsn, hoth, size, _, named_was hx hnm, hfil⟩
  · rcases f with ⟨f, _⟩ | ⟨f, _⟩ | ⟨f, _⟩ | ⟨f, _⟩ | ⟨f, _⟩ <;> omega
theorem did_remove {n : Nat} {B D : Nat → Blk} {key : Int} {x y : SetE} {a : AskE} {cc : Int} (hx : SetOk n B key x) (hh : HeldR n B (rootsX x)) (hb : Bytes a.bytes) (hc : ∀ k, k < n → (B k).refs ≤ cc) (hcc : cc + moreOf a + 24 ≤ 1000000) (h : Did n B key x a cc D y) (hk : a.kind = 5) :
    Nxt n key B D x y ∧ Others key B D x y a.file.data.toList ∧ NoFile y.files a.file.data.toList := by
  have h0 := h
  have haft := (h.after hx hh hb hc hcc).1
  obtain ⟨C, made, hY, hD, hF⟩ := h
  rcases hY with ⟨f, _⟩ | ⟨f, _⟩ | ⟨f, _, _⟩
  · omega
  · omega
  · rcases f with ⟨_, p, hp, hpn, rfl⟩ | ⟨f, _⟩ | ⟨f, _⟩ | ⟨f, _⟩ | ⟨f, _⟩
    · have hord := hx.shape.order
      have hmem : ∀ z, z ∈ x.files.eraseIdx p ↔ z ∈ x.files ∧ z.nm ≠ a.file.data.toList := fun z => by rw [mem_erase_ne (f := Ent.nm) hord hp, hpn]
      have hkeep : ∀ e ∈ x.files, e ∈ x.files.eraseIdx p → fileL key (leafAt D 3 e.root) = fileL key (leafAt B 3 e.root) := fun e he hy => haft.same e (List.mem_append_left _ he) (List.mem_append_left _ hy)
      refine ⟨did_nxt hx hh hb hc hcc h0 rfl, fun m s W hm => ?_, fun ⟨f, hf, e⟩ => ((hmem f).1 hf).2 e⟩
      constructor
      · rintro ⟨e, he, e1, e2, e3⟩
        have hy := (hmem e).2 ⟨he, by rw [e1]; exact hm⟩
        exact ⟨e, hy, e1, e2, (hkeep e he hy).trans e3⟩
      · rintro ⟨e, he, e1, e2, e3⟩
        have hxm := ((hmem e).1 he).1
        exact ⟨e, hxm, e1, e2, (hkeep e hxm he).symm.trans e3⟩
    all_goals omega
end Go.Proofs.YtnmcgmpmcliinaaGreat

namespace Go.Proofs.YtnmcgmpmcliinaaGreat
open Go.RowKit

theorem sto_bytes {w : World} {a : Option Addr} {n : Nat} {B : Nat → Blk} (h : StoreAt w a n B) : ∀ i, i < n → Bytes (B i).bytes := fun i hi => by
  obtain ⟨b, off, rfl, hlt, hB⟩ := h (by omega)
  obtain ⟨ka, kn, kc, ba, bn, bc, hb⟩ := hB i hi
  exact hb.bytes.bytes
theorem lea_bytes {n : Nat} {B : Nat → Blk} (hR : Right n B) (hb : ∀ i, i < n → Bytes (B i).bytes) : ∀ (l : Nat) (a : Int), Root n B l a → ∀ i, i < pw l → Bytes (leafAt B l a i)
  | 0, a, ha, i, _ => by
    simp only [leafAt, bytesL]
    rcases ha with h0 | ⟨⟨h1, h2, _⟩, _⟩
    · rw [if_pos h0]; intro x hx; cases hx
    · rw [if_neg (by omega)]; exact hb _ (ix h1 h2).1
  | l + 1, a, ha, i, hi => by
    have hp := pw_pos l
    have hd : i / pw l < 4 := by simp only [pw] at hi; exact Nat.div_lt_of_lt_mul (by rw [Nat.mul_comm]; exact hi)
    simp only [leafAt]
    exact lea_bytes hR hb l _ (ha.kidAt hR hd) _ (Nat.mod_lt _ hp)
/-- leaves are the same just where the bytes are -/
theorem leaf_iff {n : Nat} {B : Nat → Blk} {key r s r' s' : Int} (hb : ∀ i, i < n → Bytes (B i).bytes) (h : FileOk n B key r s) (h' : FileOk n B key r' s') {i : Nat} (hi : i < 64) : leafAt B 3 r i = leafAt B 3 r' i ↔ chunk (fileL key (leafAt B 3 r)) i = chunk (fileL key (leafAt B 3 r')) i := by
  rw [chunk_fileL key _ hi (h.leaf04 i hi), chunk_fileL key _ hi (h'.leaf04 i hi)]
  constructor
  · intro e; rw [e]
  · intro e
    rw [← leafFor_plain (h.form i hi) (lea_bytes h.right hb 3 r h.rooted i hi), ← leafFor_plain (h'.form i hi) (lea_bytes h'.right hb 3 r' h'.rooted i hi), e]
theorem mem_diffTo {B : Nat → Blk} {l : Nat} {a b : Int} {k j : Nat} : j ∈ diffTo B l a b k ↔ j < k ∧ leafAt B l a j ≠ leafAt B l b j := by
  unfold diffTo
  rw [List.mem_filter, List.mem_range]
  simp
/-- where there is no difference the bytes are the same -/
theorem same_at {n : Nat} {B : Nat → Blk} {key r s r' s' : Int} (hb : ∀ i, i < n → Bytes (B i).bytes) (h : FileOk n B key r s) (h' : FileOk n B key r' s') {k : Nat} (hk : k < 256) (hn : k / 4 ∉ diffTo B 3 r r' 64) : (fileL key (leafAt B 3 r)).getD k 0 = (fileL key (leafAt B 3 r')).getD k 0 := by
  have h4 : k / 4 < 64 := by omega
  have e : leafAt B 3 r (k / 4) = leafAt B 3 r' (k / 4) := by
    by_cases f : leafAt B 3 r (k / 4) = leafAt B 3 r' (k / 4)
    · exact f
    · exact absurd (mem_diffTo.2 ⟨h4, f⟩) hn
  rw [fileL_getD _ _ _ hk, fileL_getD _ _ _ hk, e]
theorem diff_none {n : Nat} {B : Nat → Blk} {key r s r' s' : Int} (hb : ∀ i, i < n → Bytes (B i).bytes) (h : FileOk n B key r s) (h' : FileOk n B key r' s') (e : fileL key (leafAt B 3 r) = fileL key (leafAt B 3 r')) : diffTo B 3 r r' 64 = [] := by
  refine List.eq_nil_iff_forall_not_mem.2 (fun j hj => ?_)
  obtain ⟨h1, h2⟩ := mem_diffTo.1 hj
  exact h2 ((leaf_iff hb h h' h1).2 (by rw [e]))

/-- the runs cover each place that is ahead of the size -/
theorem run_step_cover {s p : Nat} {l : List (Nat × Nat)} {ps : List Nat} (hin : ∀ r ∈ l, r.1 < r.2) (h : ∀ i ∈ ps, 4 * i < s → ∃ r ∈ l, r.1 ≤ 4 * i ∧ min (4 * i + 4) s ≤ r.2) : ∀ i ∈ ps ++ [p], 4 * i < s → ∃ r ∈ runStep s l p, r.1 ≤ 4 * i ∧ min (4 * i + 4) s ≤ r.2 := by
  intro i hi his
  unfold runStep
  rcases List.mem_append.1 hi with hi | hi
  · obtain ⟨r, hr, h1, h2⟩ := h i hi his
    split
    · exact ⟨r, hr, h1, h2⟩
    · rcases List.eq_nil_or_concat l with rfl | ⟨l0, q, hlr⟩
      · simp at hr
      · rw [List.concat_eq_append] at hlr
        subst hlr
        have hgl : (l0 ++ [q]).getLast? = some q := by simp
        rw [hgl]
        simp only [List.dropLast_concat]
        split
        · rcases List.mem_append.1 hr with hr | hr
          · exact ⟨r, List.mem_append_left _ hr, h1, h2⟩
          · rw [List.mem_singleton.1 hr] at h1 h2
            refine ⟨(q.1, min (4 * p + 4) s), by simp, h1, ?_⟩
            show min (4 * i + 4) s ≤ min (4 * p + 4) s
            omega
        · exact ⟨r, List.mem_append_left _ hr, h1, h2⟩
  · have e := List.mem_singleton.1 hi
    subst e
    rw [if_neg (by omega)]
    rcases List.eq_nil_or_concat l with rfl | ⟨l0, q, hlr⟩
    · exact ⟨(4 * i, min (4 * i + 4) s), by simp, Nat.le_refl _, Nat.le_refl _⟩
    · rw [List.concat_eq_append] at hlr
      subst hlr
      have hgl : (l0 ++ [q]).getLast? = some q := by simp
      rw [hgl]
      simp only [List.dropLast_concat]
      by_cases hq : q.2 = 4 * i
      · rw [if_pos hq]
        refine ⟨(q.1, min (4 * i + 4) s), by simp, ?_, Nat.le_refl _⟩
        have := hin q (by simp)
        show q.1 ≤ 4 * i
        omega
      · rw [if_neg hq]
        exact ⟨(4 * i, min (4 * i + 4) s), by simp, Nat.le_refl _, Nat.le_refl _⟩
theorem runs_cover (s : Nat) : ∀ (n : Nat) (ps : List Nat), ps.length = n → ∀ i ∈ ps, 4 * i < s → ∃ r ∈ runsL ps s, r.1 ≤ 4 * i ∧ min (4 * i + 4) s ≤ r.2
  | 0, ps, hl => by
    obtain rfl := List.eq_nil_of_length_eq_zero hl
    intro i hi
    simp at hi
  | n + 1, ps, hl => by
    rcases List.eq_nil_or_concat ps with rfl | ⟨l0, q, hlr⟩
    · simp at hl
    · rw [List.concat_eq_append] at hlr
      subst hlr
      rw [runsL_next]
      exact run_step_cover (fun r hr => (runsL_in r hr).1) (runs_cover s n l0 (by simpa using hl))
theorem runsL_nil {ps : List Nat} {s : Nat} (h : runsL ps s = []) : ∀ i ∈ ps, s ≤ 4 * i := fun i hi => by
  by_cases hs : 4 * i < s
  · obtain ⟨r, hr, _⟩ := runs_cover s _ ps rfl i hi hs
    rw [h] at hr
    simp at hr
  · omega

theorem look_one {l : List Ent} (ho : InOrder l) {x : Ent} (hx : x ∈ l) {t : ByteArray} (e : x.name = t) : look l t = some x := by
  cases h : look l t with
  | none => exact absurd e (look_no h x hx)
  | some y =>
    obtain ⟨h1, h2⟩ := look_mem h
    rw [ordered_one Ent.nm ho h1 hx (by unfold Ent.nm; rw [h2, e])]
/-- the same names, sizes, bytes, one by one -/
def SameF (key : Int) (B : Nat → Blk) (a b : List Ent) : Prop := a.length = b.length ∧ ∀ (k : Nat) (f g : Ent), a[k]? = some f → b[k]? = some g → f.name = g.name ∧ fileW key B f = fileW key B g
theorem fileW_len {n : Nat} {B : Nat → Blk} {key : Int} {e : Ent} (h : FileOk n B key e.root e.size) : ((fileW key B e).length : Int) = e.size := by
  unfold fileW
  rw [List.length_take, fileL_length]
  have := h.sb
  omega
theorem fileL_of_W {n : Nat} {B : Nat → Blk} {key : Int} {e : Ent} (h : FileOk n B key e.root e.size) : fileL key (leafAt B 3 e.root) = padTo (fileW key B e) := by
  have hs := h.sb
  exact (padTo_take (fileL_length _ _) (s := e.size.toNat) (by omega) (fun k h1 h2 => h.behind k (by omega) h2)).symm
theorem getD_take {l : List Int} {s k : Nat} (hk : k < s) : (l.take s).getD k 0 = l.getD k 0 := by
  rw [List.getD_eq_getElem?_getD, List.getD_eq_getElem?_getD, List.getElem?_take_of_lt hk]
theorem names_same {a b : List Ent} (ha : InOrder a) (hb : InOrder b) (h : ∀ t : ByteArray, (∃ e ∈ a, e.name = t) ↔ ∃ e ∈ b, e.name = t) : a.map (·.name) = b.map (·.name) := by
  have h1 : a.map Ent.nm = b.map Ent.nm := by
    refine ordered_ext id (List.pairwise_map.2 ha) (List.pairwise_map.2 hb) (fun z => ?_)
    rw [List.mem_map, List.mem_map]
    constructor
    · rintro ⟨e, he, rfl⟩
      obtain ⟨f, hf, h2⟩ := (h e.name).1 ⟨e, he, rfl⟩
      exact ⟨f, hf, by unfold Ent.nm; rw [h2]⟩
    · rintro ⟨e, he, rfl⟩
      obtain ⟨f, hf, h2⟩ := (h e.name).2 ⟨e, he, rfl⟩
      exact ⟨f, hf, by unfold Ent.nm; rw [h2]⟩
  have hl : a.length = b.length := by have := congrArg List.length h1; simpa using this
  refine List.ext_getElem (by simpa using hl) (fun i hi hj => ?_)
  have h2 : (a.map Ent.nm)[i]'(by simpa using hi) = (b.map Ent.nm)[i]'(by simpa using hj) := by simp [h1]
  simp only [List.getElem_map] at h2 ⊢
  exact bytes_eq h2
/-- nothing is said just of the same files -/
theorem diff_nil {n : Nat} {B : Nat → Blk} {key : Int} {x y : SetE} (hx : SetOk n B key x) (hy : SetOk n B key y) (hb : ∀ i, i < n → Bytes (B i).bytes) : diffL key B x.files y.files = [] ↔ SameF key B x.files y.files := by
  have fx : ∀ e ∈ x.files, FileOk n B key e.root e.size := fun e he => hx.ents e (List.mem_append_left _ he)
  have fy : ∀ e ∈ y.files, FileOk n B key e.root e.size := fun e he => hy.ents e (List.mem_append_left _ he)
  have ox := hx.shape.order
  have oy := hy.shape.order
  constructor
  · intro h
    obtain ⟨hg, ht⟩ := List.append_eq_nil_iff.1 h
    have hg' : ∀ e ∈ x.files, ∃ f ∈ y.files, f.name = e.name := fun e he => by
      unfold goneL at hg
      rw [List.map_eq_nil_iff, List.filter_eq_nil_iff] at hg
      have := hg e he
      cases hlk : look y.files e.name with
      | none => rw [hlk] at this; simp at this
      | some f => exact ⟨f, look_mem hlk⟩
    have ht' : ∀ g ∈ y.files, ∃ f ∈ x.files, f.name = g.name ∧ f.size = g.size ∧ runsL (diffTo B 3 f.root g.root 64) g.size.toNat = [] := fun g hg => by
      have h1 := List.flatMap_eq_nil_iff.1 ht g hg
      unfold turnedL at h1
      obtain ⟨h2, h3⟩ := List.append_eq_nil_iff.1 h1
      rw [List.map_eq_nil_iff] at h3
      unfold sizedL at h2
      by_cases hc : (look x.files g.name).isNone ∨ sizeO (look x.files g.name) ≠ g.size
      · rw [if_pos hc] at h2; cases h2
      · cases hlk : look x.files g.name with
        | none => rw [hlk] at hc; simp at hc
        | some f =>
          unfold runsOf at h3
          rw [hlk] at hc h3
          simp only [sizeO, rootO] at hc h3
          have hsz : f.size = g.size := by
            by_cases e : f.size = g.size
            · exact e
            · exact absurd (.inr e) hc
          exact ⟨f, (look_mem hlk).1, (look_mem hlk).2, hsz, h3⟩
    have hn := names_same ox oy (fun t => ⟨fun ⟨e, he, e1⟩ => by obtain ⟨f, hf, e2⟩ := hg' e he; exact ⟨f, hf, e2.trans e1⟩, fun ⟨g, hg, e1⟩ => by obtain ⟨f, hf, e2, _⟩ := ht' g hg; exact ⟨f, hf, e2.trans e1⟩⟩)
    refine ⟨by have := congrArg List.length hn; simpa using this, fun k f g hf hg => ?_⟩
    have e1 : f.name = g.name := by
      have h1 : (x.files.map (·.name))[k]? = (y.files.map (·.name))[k]? := by rw [hn]
      rw [List.getElem?_map, List.getElem?_map, hf, hg] at h1
      simpa using h1
    refine ⟨e1, ?_⟩
    have hfm := List.mem_of_getElem? hf
    have hgm := List.mem_of_getElem? hg
    obtain ⟨f', hf', e2, e3, e4⟩ := ht' g hgm
    obtain rfl := ordered_one Ent.nm ox hf' hfm (by unfold Ent.nm; rw [e2, e1])
    have l1 := fileW_len (fx f' hf')
    have l2 := fileW_len (fy g hgm)
    have hs := (fy g hgm).sb
    apply list_ext_getD
    · omega
    · intro j hj
      have hjs : j < g.size.toNat := by omega
      unfold fileW
      rw [e3, getD_take hjs, getD_take hjs]
      refine same_at hb (fx f' hf') (fy g hgm) (by omega) (fun hm => ?_)
      have := runsL_nil e4 _ hm
      omega
  · rintro ⟨hl, h⟩
    have hpair : ∀ k g, y.files[k]? = some g → ∃ f, x.files[k]? = some f ∧ f.name = g.name ∧ fileW key B f = fileW key B g := fun k g hg => by
      obtain ⟨hk, _⟩ := List.getElem?_eq_some_iff.1 hg
      have hk' : k < x.files.length := by omega
      have hf := List.getElem?_eq_getElem hk'
      exact ⟨_, hf, h k _ g hf hg⟩
    unfold diffL
    refine List.append_eq_nil_iff.2 ⟨?_, ?_⟩
    · unfold goneL
      rw [List.map_eq_nil_iff, List.filter_eq_nil_iff]
      intro e he
      obtain ⟨k, hk⟩ := List.getElem?_of_mem he
      obtain ⟨hk1, _⟩ := List.getElem?_eq_some_iff.1 hk
      have hk' : k < y.files.length := by omega
      have hg := List.getElem?_eq_getElem hk'
      have e1 := (h k e _ hk hg).1
      rw [look_one oy (List.getElem_mem hk') e1.symm]
      simp
    · refine List.flatMap_eq_nil_iff.2 (fun g hg => ?_)
      obtain ⟨k, hk⟩ := List.getElem?_of_mem hg
      obtain ⟨f, hf, e1, e2⟩ := hpair k g hk
      have hfm := List.mem_of_getElem? hf
      have l1 := fileW_len (fx f hfm)
      have l2 := fileW_len (fy g hg)
      have es : f.size = g.size := by rw [← l1, ← l2, e2]
      have eL : fileL key (leafAt B 3 f.root) = fileL key (leafAt B 3 g.root) := by rw [fileL_of_W (fx f hfm), fileL_of_W (fy g hg), e2]
      unfold turnedL sizedL runsOf
      rw [look_one ox hfm e1]
      simp only [rootO, sizeO]
      rw [diff_none hb (fx f hfm) (fy g hg) eL]
      simp [es, runsL]
theorem sameF_self (key : Int) (B : Nat → Blk) (l : List Ent) : SameF key B l l := ⟨rfl, fun k f g hf hg => by rw [hf] at hg; cases hg; exact ⟨rfl, rfl⟩⟩
end Go.Proofs.YtnmcgmpmcliinaaGreat
