/-
  ImgG, PoolN in one text. Nothing here is trusted.
-/
import Derived.Test.YtmpedoklljhdbaaGreatPart24
import Derived.Test.YtmpedoklljhdbaaGreatPart16
set_option linter.unusedVariables false
namespace Go.Proofs.YtmpedoklljhdbaaGreat
open Go.RowKit

/-- a number of two bytes -/
def N16 (x : Int) : Prop := 0 ≤ x ∧ x < 65536
theorem numP_enc {x : Int} (h : N16 x) (r : List Int) : numP (numB x ++ r) = some (x, r) := by
  unfold N16 at h
  simp only [numB, List.cons_append, List.nil_append, numP, Option.some.injEq, Prod.mk.injEq, and_true]
  omega
theorem numP_dec {l r : List Int} {x : Int} (hB : Byt l) (h : numP l = some (x, r)) : l = numB x ++ r ∧ N16 x := by
  match l, h with
  | a :: b :: s, h =>
    simp only [numP, Option.some.injEq, Prod.mk.injEq] at h
    obtain ⟨rfl, rfl⟩ := h
    have h1 := hB a (by simp)
    have h2 := hB b (by simp)
    refine ⟨?_, by unfold N16; omega⟩
    simp only [numB, List.cons_append, List.nil_append, List.cons.injEq, and_true]
    omega
theorem Byt.right {l m : List Int} (h : Byt (l ++ m)) : Byt m := fun x hx => h x (List.mem_append_right _ hx)
theorem Byt.left {l m : List Int} (h : Byt (l ++ m)) : Byt l := fun x hx => h x (List.mem_append_left _ hx)

theorem bytesP_enc {b : List Int} (h : b.length < 65536) (r : List Int) : bytesP (bytesB b ++ r) = some (b, r) := by
  unfold bytesP bytesB
  rw [List.append_assoc, numP_enc (by unfold N16; omega)]
  simp
theorem bytesP_dec {l r b : List Int} (hB : Byt l) (h : bytesP l = some (b, r)) : l = bytesB b ++ r ∧ b.length < 65536 := by
  unfold bytesP at h
  cases h1 : numP l with
  | none => simp [h1] at h
  | some p =>
    obtain ⟨n, s⟩ := p
    obtain ⟨rfl, hn⟩ := numP_dec hB h1
    rw [h1] at h
    simp only at h
    by_cases hle : n.toNat ≤ s.length
    · simp only [hle, if_true, Option.some.injEq, Prod.mk.injEq] at h
      obtain ⟨rfl, rfl⟩ := h
      unfold N16 at hn
      have hl : (s.take n.toNat).length = n.toNat := by rw [List.length_take]; omega
      refine ⟨?_, by omega⟩
      unfold bytesB
      rw [hl, List.append_assoc, List.take_append_drop, Int.toNat_of_nonneg hn.1]
    · simp [hle] at h
theorem str_back (s : ByteArray) : strOfNums (strL s) = s := by
  apply bytes_eq
  rw [strOfNums_data, strL, List.map_map]
  have : (fun n : Int => UInt8.ofNat n.toNat) ∘ (fun b : UInt8 => (b.toNat : Int)) = id := by
    funext b
    simp
  rw [this, List.map_id]
theorem str_forth {b : List Int} (hB : Byt b) : strL (strOfNums b) = b := by
  unfold strL
  rw [strOfNums_data, List.map_map]
  conv => rhs; rw [← List.map_id b]
  apply List.map_congr_left
  intro x hx
  have := hB x hx
  simp only [Function.comp, id, UInt8.toNat_ofNat']
  omega
theorem nameP_enc {s : ByteArray} (h : s.size < 65536) (r : List Int) : nameP (nameB s ++ r) = some (s, r) := by
  unfold nameP nameB
  rw [bytesP_enc (by rw [strL_len]; exact h)]
  simp only
  rw [str_back]
theorem nameP_dec {l r : List Int} {s : ByteArray} (hB : Byt l) (h : nameP l = some (s, r)) : l = nameB s ++ r ∧ s.size < 65536 := by
  unfold nameP at h
  cases h1 : bytesP l with
  | none => simp [h1] at h
  | some p =>
    obtain ⟨b, t⟩ := p
    obtain ⟨e, hn⟩ := bytesP_dec hB h1
    rw [h1] at h
    simp only [Option.some.injEq, Prod.mk.injEq] at h
    obtain ⟨rfl, rfl⟩ := h
    have hb : Byt b := by rw [e] at hB; unfold bytesB at hB; exact hB.left.right
    refine ⟨?_, by rw [strOfNums_size]; exact hn⟩
    unfold nameB
    rw [str_forth hb]
    exact e

theorem listP_enc {α : Type} {one : List Int → Option (α × List Int)} {enc : α → List Int} {ok : α → Prop} (h1 : ∀ x r, ok x → one (enc x ++ r) = some (x, r)) : ∀ (xs : List α) (r : List Int), (∀ x ∈ xs, ok x) → listP one xs.length (xs.flatMap enc ++ r) = some (xs, r)
  | [], r, _ => rfl
  | x :: xs, r, h => by
    simp only [List.length_cons, List.flatMap_cons, List.append_assoc, listP]
    rw [h1 x _ (h x (by simp))]
    simp only
    rw [listP_enc h1 xs r (fun y hy => h y (by simp [hy]))]
theorem listP_dec {α : Type} {one : List Int → Option (α × List Int)} {enc : α → List Int} (h1 : ∀ l x r, Byt l → one l = some (x, r) → l = enc x ++ r) : ∀ (n : Nat) (l r : List Int) (xs : List α), Byt l → listP one n l = some (xs, r) → l = xs.flatMap enc ++ r ∧ xs.length = n
  | 0, l, r, xs, _, h => by
    simp only [listP, Option.some.injEq, Prod.mk.injEq] at h
    obtain ⟨rfl, rfl⟩ := h
    exact ⟨rfl, rfl⟩
  | n + 1, l, r, xs, hB, h => by
    simp only [listP] at h
    cases h2 : one l with
    | none => simp [h2] at h
    | some p =>
      obtain ⟨x, s⟩ := p
      have e := h1 l x s hB h2
      simp only [h2] at h
      have hBs : Byt s := by rw [e] at hB; exact hB.right
      cases h3 : listP one n s with
      | none => simp [h3] at h
      | some q =>
        obtain ⟨ys, t⟩ := q
        simp only [h3, Option.some.injEq, Prod.mk.injEq] at h
        obtain ⟨rfl, rfl⟩ := h
        obtain ⟨e2, e3⟩ := listP_dec h1 n s t ys hBs h3
        refine ⟨?_, by rw [List.length_cons, e3]⟩
        rw [e, List.flatMap_cons, List.append_assoc, ← e2]

/-- a list behind its length -/
def lstB {α : Type} (enc : α → List Int) (xs : List α) : List Int := numB (xs.length : Int) ++ xs.flatMap enc
theorem lst_enc {α : Type} {one : List Int → Option (α × List Int)} {enc : α → List Int} {ok : α → Prop} (h1 : ∀ x r, ok x → one (enc x ++ r) = some (x, r)) (xs : List α) (r : List Int) (h : ∀ x ∈ xs, ok x) (hl : xs.length < 65536) :
    (match numP (lstB enc xs ++ r) with | none => none | some (n, l1) => listP one n.toNat l1) = some (xs, r) := by
  unfold lstB
  rw [List.append_assoc, numP_enc (by unfold N16; omega)]
  simp only [Int.toNat_natCast]
  exact listP_enc h1 xs r h
theorem lst_dec {α : Type} {one : List Int → Option (α × List Int)} {enc : α → List Int} (h1 : ∀ l x r, Byt l → one l = some (x, r) → l = enc x ++ r) (l r : List Int) (xs : List α) (hB : Byt l)
    (h : (match numP l with | none => none | some (n, l1) => listP one n.toNat l1) = some (xs, r)) : l = lstB enc xs ++ r := by
  cases h2 : numP l with
  | none => simp [h2] at h
  | some p =>
    obtain ⟨n, s⟩ := p
    obtain ⟨e, hn⟩ := numP_dec hB h2
    simp only [h2] at h
    have hBs : Byt s := by rw [e] at hB; exact hB.right
    obtain ⟨e2, e3⟩ := listP_dec h1 _ s r xs hBs h
    unfold lstB
    unfold N16 at hn
    rw [e3, Int.toNat_of_nonneg hn.1, List.append_assoc, ← e2]
    exact e

def EntN (x : Ent) : Prop := x.name.size < 65536 ∧ N16 x.root ∧ N16 x.size
theorem entP_enc (x : Ent) (r : List Int) (h : EntN x) : entP (entB x ++ r) = some (x, r) := by
  unfold entP entB
  simp only [numsB, List.flatMap_cons, List.flatMap_nil, List.append_nil, List.append_assoc]
  rw [nameP_enc h.1]; simp only
  rw [numP_enc h.2.1]; simp only
  rw [numP_enc h.2.2]
theorem entP_dec (l : List Int) (x : Ent) (r : List Int) (hB : Byt l) (h : entP l = some (x, r)) : l = entB x ++ r := by
  unfold entP at h
  cases h1 : nameP l with
  | none => simp [h1] at h
  | some p =>
    obtain ⟨s, l1⟩ := p
    obtain ⟨e1, _⟩ := nameP_dec hB h1
    simp only [h1] at h
    have B1 : Byt l1 := by rw [e1] at hB; exact hB.right
    cases h2 : numP l1 with
    | none => simp [h2] at h
    | some p =>
      obtain ⟨a, l2⟩ := p
      obtain ⟨e2, _⟩ := numP_dec B1 h2
      simp only [h2] at h
      have B2 : Byt l2 := by rw [e2] at B1; exact B1.right
      cases h3 : numP l2 with
      | none => simp [h3] at h
      | some p =>
        obtain ⟨z, l3⟩ := p
        obtain ⟨e3, _⟩ := numP_dec B2 h3
        simp only [h3, Option.some.injEq, Prod.mk.injEq] at h
        obtain ⟨rfl, rfl⟩ := h
        unfold entB
        simp only [numsB, List.flatMap_cons, List.flatMap_nil, List.append_nil, List.append_assoc]
        rw [← e3, ← e2]
        exact e1
theorem filesB_eq (l : List Ent) : filesB l = lstB entB l := rfl
theorem filesP_enc (xs : List Ent) (r : List Int) (h : ∀ x ∈ xs, EntN x) (hl : xs.length < 65536) : filesP (filesB xs ++ r) = some (xs, r) := lst_enc entP_enc xs r h hl
theorem filesP_dec (l : List Int) (xs : List Ent) (r : List Int) (hB : Byt l) (h : filesP l = some (xs, r)) : l = filesB xs ++ r := lst_dec entP_dec l r xs hB h
def SnapN (x : SnapE) : Prop := x.name.size < 65536 ∧ (∀ e ∈ x.files, EntN e) ∧ x.files.length < 65536
theorem snapP_enc (x : SnapE) (r : List Int) (h : SnapN x) : snapP (snapB x ++ r) = some (x, r) := by
  unfold snapP snapB
  rw [List.append_assoc, nameP_enc h.1]; simp only
  rw [filesP_enc _ _ h.2.1 h.2.2]
theorem snapP_dec (l : List Int) (x : SnapE) (r : List Int) (hB : Byt l) (h : snapP l = some (x, r)) : l = snapB x ++ r := by
  unfold snapP at h
  cases h1 : nameP l with
  | none => simp [h1] at h
  | some p =>
    obtain ⟨s, l1⟩ := p
    obtain ⟨e1, _⟩ := nameP_dec hB h1
    simp only [h1] at h
    have B1 : Byt l1 := by rw [e1] at hB; exact hB.right
    cases h2 : filesP l1 with
    | none => simp [h2] at h
    | some p =>
      obtain ⟨fs, l2⟩ := p
      have e2 := filesP_dec l1 fs l2 B1 h2
      simp only [h2, Option.some.injEq, Prod.mk.injEq] at h
      obtain ⟨rfl, rfl⟩ := h
      unfold snapB
      rw [List.append_assoc, ← e2]
      exact e1
theorem snapsP_enc (xs : List SnapE) (r : List Int) (h : ∀ x ∈ xs, SnapN x) (hl : xs.length < 65536) : snapsP (lstB snapB xs ++ r) = some (xs, r) := lst_enc snapP_enc xs r h hl
theorem snapsP_dec (l : List Int) (xs : List SnapE) (r : List Int) (hB : Byt l) (h : snapsP l = some (xs, r)) : l = lstB snapB xs ++ r := lst_dec snapP_dec l r xs hB h
def SetN7 (x : SetE) : Prop := x.name.size < 65536 ∧ ((∀ e ∈ x.files, EntN e) ∧ x.files.length < 65536) ∧ (∀ s ∈ x.snaps, SnapN s) ∧ x.snaps.length < 65536
theorem setP_enc (x : SetE) (r : List Int) (h : SetN7 x) : setP (setB x ++ r) = some (x, r) := by
  have e : setB x ++ r = nameB x.name ++ (filesB x.files ++ (lstB snapB x.snaps ++ r)) := by unfold setB lstB; simp only [List.append_assoc]
  rw [e]
  unfold setP
  rw [nameP_enc h.1]; simp only
  rw [filesP_enc _ _ h.2.1.1 h.2.1.2]; simp only
  rw [snapsP_enc x.snaps r h.2.2.1 h.2.2.2]
theorem setP_dec (l : List Int) (x : SetE) (r : List Int) (hB : Byt l) (h : setP l = some (x, r)) : l = setB x ++ r := by
  unfold setP at h
  cases h1 : nameP l with
  | none => simp [h1] at h
  | some p =>
    obtain ⟨s, l1⟩ := p
    obtain ⟨e1, _⟩ := nameP_dec hB h1
    simp only [h1] at h
    have B1 : Byt l1 := by rw [e1] at hB; exact hB.right
    cases h2 : filesP l1 with
    | none => simp [h2] at h
    | some p =>
      obtain ⟨fs, l2⟩ := p
      have e2 := filesP_dec l1 fs l2 B1 h2
      simp only [h2] at h
      have B2 : Byt l2 := by rw [e2] at B1; exact B1.right
      cases h3 : snapsP l2 with
      | none => rw [h3] at h; simp at h
      | some p =>
        obtain ⟨ss, l3⟩ := p
        have e3 := snapsP_dec l2 ss l3 B2 h3
        rw [h3] at h
        simp only [Option.some.injEq, Prod.mk.injEq] at h
        obtain ⟨rfl, rfl⟩ := h
        have e : setB ⟨s, fs, ss⟩ ++ l3 = nameB s ++ (filesB fs ++ (lstB snapB ss ++ l3)) := by unfold setB lstB; simp only [List.append_assoc]
        rw [e, ← e3, ← e2]
        exact e1
theorem setsP_enc (xs : List SetE) (r : List Int) (h : ∀ x ∈ xs, SetN7 x) (hl : xs.length < 65536) : setsP (lstB setB xs ++ r) = some (xs, r) := lst_enc setP_enc xs r h hl
theorem setsP_dec (l : List Int) (xs : List SetE) (r : List Int) (hB : Byt l) (h : setsP l = some (xs, r)) : l = lstB setB xs ++ r := lst_dec setP_dec l r xs hB h
def TenN (t : TenE) : Prop := N16 t.key ∧ N16 t.quota ∧ (∀ x ∈ t.sets, SetN7 x) ∧ t.sets.length < 65536
theorem tenB_eq (t : TenE) : tenB t = numB t.key ++ (numB t.quota ++ lstB setB t.sets) := by
  unfold tenB lstB
  simp only [numsB, List.flatMap_cons, List.flatMap_nil, List.append_nil, List.append_assoc]
theorem tenP_enc (t : TenE) (r : List Int) (h : TenN t) : tenP (tenB t ++ r) = some (t, r) := by
  rw [tenB_eq]
  unfold tenP
  rw [List.append_assoc, numP_enc h.1]; simp only
  rw [List.append_assoc, numP_enc h.2.1]; simp only
  rw [setsP_enc t.sets r h.2.2.1 h.2.2.2]
theorem tenP_dec (l : List Int) (t : TenE) (r : List Int) (hB : Byt l) (h : tenP l = some (t, r)) : l = tenB t ++ r := by
  unfold tenP at h
  cases h1 : numP l with
  | none => simp [h1] at h
  | some p =>
    obtain ⟨k, l1⟩ := p
    obtain ⟨e1, _⟩ := numP_dec hB h1
    simp only [h1] at h
    have B1 : Byt l1 := by rw [e1] at hB; exact hB.right
    cases h2 : numP l1 with
    | none => simp [h2] at h
    | some p =>
      obtain ⟨q, l2⟩ := p
      obtain ⟨e2, _⟩ := numP_dec B1 h2
      simp only [h2] at h
      have B2 : Byt l2 := by rw [e2] at B1; exact B1.right
      cases h3 : setsP l2 with
      | none => rw [h3] at h; simp at h
      | some p =>
        obtain ⟨ss, l3⟩ := p
        have e3 := setsP_dec l2 ss l3 B2 h3
        rw [h3] at h
        simp only [Option.some.injEq, Prod.mk.injEq] at h
        obtain ⟨rfl, rfl⟩ := h
        rw [tenB_eq, List.append_assoc, List.append_assoc, ← e3, ← e2]
        exact e1
theorem tensP_enc (xs : List TenE) (r : List Int) (h : ∀ x ∈ xs, TenN x) (hl : xs.length < 65536) : tensP (lstB tenB xs ++ r) = some (xs, r) := lst_enc tenP_enc xs r h hl
theorem tensP_dec (l : List Int) (xs : List TenE) (r : List Int) (hB : Byt l) (h : tensP l = some (xs, r)) : l = lstB tenB xs ++ r := lst_dec tenP_dec l r xs hB h
theorem kidsP_enc (xs : List Int) (r : List Int) (h : ∀ x ∈ xs, N16 x) (hl : xs.length < 65536) : kidsP (lstB numB xs ++ r) = some (xs, r) := lst_enc (ok := N16) (fun x r h => numP_enc h r) xs r h hl
theorem kidsP_dec (l : List Int) (xs : List Int) (r : List Int) (hB : Byt l) (h : kidsP l = some (xs, r)) : l = lstB numB xs ++ r := lst_dec (fun l x r hB h => (numP_dec hB h).1) l r xs hB h
def BlkN (b : Blk) : Prop := N16 b.refs ∧ N16 b.level ∧ (∀ k ∈ b.kids, N16 k) ∧ b.kids.length < 65536 ∧ b.bytes.length < 65536
theorem blkB_eq (b : Blk) : blkB b = numB b.refs ++ (numB b.level ++ (lstB numB b.kids ++ bytesB b.bytes)) := by
  unfold blkB lstB
  simp only [numsB, List.flatMap_cons, List.flatMap_nil, List.append_nil, List.append_assoc]
theorem blkP_enc (b : Blk) (r : List Int) (h : BlkN b) : blkP (blkB b ++ r) = some (b, r) := by
  rw [blkB_eq]
  unfold blkP
  rw [List.append_assoc, numP_enc h.1]; simp only
  rw [List.append_assoc, numP_enc h.2.1]; simp only
  rw [List.append_assoc, kidsP_enc b.kids _ h.2.2.1 h.2.2.2.1]; simp only
  rw [bytesP_enc h.2.2.2.2]
theorem blkP_dec (l : List Int) (b : Blk) (r : List Int) (hB : Byt l) (h : blkP l = some (b, r)) : l = blkB b ++ r := by
  unfold blkP at h
  cases h1 : numP l with
  | none => simp [h1] at h
  | some p =>
    obtain ⟨k, l1⟩ := p
    obtain ⟨e1, _⟩ := numP_dec hB h1
    simp only [h1] at h
    have B1 : Byt l1 := by rw [e1] at hB; exact hB.right
    cases h2 : numP l1 with
    | none => simp [h2] at h
    | some p =>
      obtain ⟨q, l2⟩ := p
      obtain ⟨e2, _⟩ := numP_dec B1 h2
      simp only [h2] at h
      have B2 : Byt l2 := by rw [e2] at B1; exact B1.right
      cases h3 : kidsP l2 with
      | none => rw [h3] at h; simp at h
      | some p =>
        obtain ⟨ks, l3⟩ := p
        have e3 := kidsP_dec l2 ks l3 B2 h3
        rw [h3] at h
        simp only at h
        have B3 : Byt l3 := by rw [e3] at B2; exact B2.right
        cases h4 : bytesP l3 with
        | none => simp [h4] at h
        | some p =>
          obtain ⟨bs, l4⟩ := p
          obtain ⟨e4, _⟩ := bytesP_dec B3 h4
          simp only [h4, Option.some.injEq, Prod.mk.injEq] at h
          obtain ⟨rfl, rfl⟩ := h
          rw [blkB_eq, List.append_assoc, List.append_assoc, List.append_assoc, ← e4, ← e3, ← e2]
          exact e1

theorem blksP_enc (xs : List Blk) (r : List Int) (h : ∀ x ∈ xs, BlkN x) (hl : xs.length < 65536) : blksP (lstB blkB xs ++ r) = some (xs, r) := lst_enc blkP_enc xs r h hl
theorem blksP_dec (l : List Int) (xs : List Blk) (r : List Int) (hB : Byt l) (h : blksP l = some (xs, r)) : l = lstB blkB xs ++ r := lst_dec blkP_dec l r xs hB h
/-- an image of a list of blocks and tenants -/
def imgB (bs : List Blk) (ts : List TenE) : List Int := lstB blkB bs ++ lstB tenB ts
theorem range_flat {f : Blk → List Int} (bs : List Blk) : (List.range bs.length).flatMap (fun i => f (blksOf bs i)) = bs.flatMap f := by
  induction bs with
  | nil => rfl
  | cons b bs ih =>
    rw [List.length_cons, List.range_succ_eq_map, List.flatMap_cons, List.flatMap_cons, List.flatMap_map]
    simp only [blksOf, List.getD_cons_zero, List.getD_cons_succ] at ih ⊢
    rw [ih]
theorem poolB_of (bs : List Blk) (ts : List TenE) : poolB bs.length (blksOf bs) ts = imgB bs ts := by
  unfold poolB imgB lstB blocksB
  rw [range_flat (f := blkB)]
  simp only [List.append_assoc]
theorem poolP_enc (bs : List Blk) (ts : List TenE) (r : List Int) (h : (∀ b ∈ bs, BlkN b) ∧ bs.length < 65536) (k : (∀ t ∈ ts, TenN t) ∧ ts.length < 65536) : poolP (imgB bs ts ++ r) = some ((bs, ts), r) := by
  unfold poolP imgB
  rw [List.append_assoc, blksP_enc bs _ h.1 h.2]; simp only
  rw [tensP_enc ts _ k.1 k.2]
theorem poolP_dec {l r : List Int} {bs : List Blk} {ts : List TenE} (hB : Byt l) (h : poolP l = some ((bs, ts), r)) : l = imgB bs ts ++ r := by
  unfold poolP at h
  cases h1 : blksP l with
  | none => rw [h1] at h; simp at h
  | some p =>
    obtain ⟨xs, l1⟩ := p
    have e1 := blksP_dec l xs l1 hB h1
    rw [h1] at h
    simp only at h
    have B1 : Byt l1 := by rw [e1] at hB; exact hB.right
    cases h2 : tensP l1 with
    | none => rw [h2] at h; simp at h
    | some p =>
      obtain ⟨ys, l2⟩ := p
      have e2 := tensP_dec l1 ys l2 B1 h2
      rw [h2] at h
      simp only [Option.some.injEq, Prod.mk.injEq] at h
      obtain ⟨⟨rfl, rfl⟩, rfl⟩ := h
      unfold imgB
      rw [List.append_assoc, ← e2]
      exact e1

theorem sumTo_leC {f : Nat → Nat} {c : Nat} : ∀ {n : Nat}, (∀ i, i < n → f i ≤ c) → sumTo f n ≤ n * c
  | 0, _ => by simp [sumTo]
  | n + 1, h => by
    have h1 := h n (by omega)
    have h2 := sumTo_leC (f := f) (n := n) (fun i hi => h i (by omega))
    simp only [sumTo, Nat.add_mul, Nat.one_mul]
    omega
theorem PoolOk.refs {n : Nat} {B : Nat → Blk} {l : List TenE} (h : PoolOk n B l) {k : Nat} (hk : k < n) : (B k).refs ≤ 2000 := by
  have h1 := h.held k hk
  have h2 := rootsP_len h.tens
  have h3 := h.few
  have h4 := h.right.small
  have h5 := List.count_le_length (a := (k : Int) + 1) (l := rootsP l)
  have h6 : among n B ((k : Int) + 1) ≤ n * 4 := sumTo_leC (fun i hi => Nat.le_trans List.count_le_length (form_few (h.right.one i hi)).1)
  unfold outs at h1
  omega
theorem PoolOk.blkN {n : Nat} {B : Nat → Blk} {l : List TenE} (h : PoolOk n B l) {k : Nat} (hk : k < n) : BlkN (B k) := by
  have h1 := h.refs hk
  have h2 := (h.right.one k hk).bounds
  have h3 := form_few (h.right.one k hk)
  have h4 := h.right.small
  refine ⟨by unfold N16; omega, by unfold N16; omega, fun x hx => ?_, by omega, by omega⟩
  rcases (h.right.one k hk).kids x hx with h5 | ⟨h5, _⟩
  · subst h5; unfold N16; omega
  · have := h5.1; have := h5.2.1; unfold N16; omega
theorem FileOk.entN {n : Nat} {B : Nat → Blk} {key : Int} {e : Ent} (h : FileOk n B key e.root e.size) (hn : IsName e.name) : EntN e := by
  have h1 := name_size hn
  have h2 := h.sb
  have h3 := h.rootBd
  have h4 := h.right.small
  exact ⟨by omega, by unfold N16; omega, by unfold N16; omega⟩
theorem SetOk.setN {n : Nat} {B : Nat → Blk} {key : Int} {x : SetE} (h : SetOk n B key x) : SetN7 x := by
  have h1 := name_size h.name
  have h2 := h.files.few
  have h3 := h.fewS
  refine ⟨by omega, ⟨fun e he => (h.files.files e he).entN (h.files.names e he), by omega⟩, fun s hs => ?_, by omega⟩
  have h4 := name_size (h.namesS s hs)
  have h5 := (h.filesS s hs).few
  exact ⟨by omega, fun e he => ((h.filesS s hs).files e he).entN ((h.filesS s hs).names e he), by omega⟩
theorem TenOk.tenN {n : Nat} {B : Nat → Blk} {t : TenE} (h : TenOk n B t) : TenN t := by
  have h1 := h.kb
  have h2 := h.qb
  have h3 := h.few
  exact ⟨by unfold N16; omega, by unfold N16; omega, fun x hx => (h.sets x hx).setN, by omega⟩
theorem PoolOk.parse {bs : List Blk} {ts : List TenE} (h : PoolOk bs.length (blksOf bs) ts) (r : List Int) : poolP (imgB bs ts ++ r) = some ((bs, ts), r) := by
  have h1 := h.right.small
  have h2 := h.few
  refine poolP_enc bs ts r ⟨fun b hb => ?_, by omega⟩ ⟨fun t ht => (h.tens t ht).tenN, by omega⟩
  obtain ⟨i, hi, rfl⟩ := List.getElem_of_mem hb
  have := h.blkN hi
  have e : blksOf bs i = bs[i] := by simp [blksOf, List.getD, hi]
  rwa [e] at this
end Go.Proofs.YtmpedoklljhdbaaGreat

namespace Go.Proofs.YtmpedoklljhdbaaGreat
open Go.RowKit

theorem kept_drew (g : Nat) (w : World) : Kept g w w.drew := ⟨rfl, rfl, rfl, rfl, fun _ _ => rfl⟩
/-- what New answers -/
def RetNw (base : Nat) (e : Ending) (w : World) (n : Nat) (l : List TenE) : Prop :=
  ∃ (a : Option Addr) (c : Nat) (ta : Option Addr) (tn tc : Nat), e = .returned (.tuple #[.agg #[.slice a n c, .slice ta tn tc], .int .i64 0]) ∧ PoolAt (fun _ => True) w a n (fun _ => Blk.zero) ta tn l ∧ tn ≤ tc

theorem make_1 (w : World) : (Instr.makeSlice 25 (.int .i64 1) (.int .i64 1)).run Tryz.prog w = .ok (.slice (some ⟨w.heap.size, 0, none⟩) 1 1) (w.alloc (.cells #[.int .i64 0, .int .i64 0, .slice none 0 0] 42)) := by
  obtain ⟨i0, hi, hz0, hz1, hz2⟩ := info_parts Tryz.infoT
  rw [run_makeSlice (P := Tryz.prog) w 25 42 i0 _ Tryz.underlying25 hi hz0 .i64 .i64 1 1 (by omega) (by omega) (by rw [hz1]; decide) (by rw [hz2]; decide) (by decide), hz1]
  have e : madeCells (Value.agg #[.int .i64 0, .int .i64 0, .slice none 0 0]).cells (Int.toNat 1 * 3) = #[.int .i64 0, .int .i64 0, .slice none 0 0] := by
    first
    | rfl
    | simp [madeCells, Value.cells, Array.range_succ, Array.range_zero']
    | kernel_rfl
  rw [e]
  rfl

set_option maxHeartbeats 4000000 in
set_option maxRecDepth 100000 in
theorem new1_any (n : Nat) (k0 q0 : Int) (kb qb : Nat) (w : World) (hn : n ≤ 400) (hk : CellsAt w kb #[.int .i64 k0] 3) (hq : CellsAt w qb #[.int .i64 q0] 3) (hb : (-9223372036854775808 ≤ k0 ∧ k0 ≤ 9223372036854775807) ∧ (-9223372036854775808 ≤ q0 ∧ q0 ≤ 9223372036854775807)) (hok : PoolOk n (fun _ => Blk.zero) [⟨k0, q0, []⟩]) :
    Calls Tryz.prog 37 #[.int .i64 n, .slice (some ⟨kb, 0, none⟩) 1 1, .slice (some ⟨qb, 0, none⟩) 1 1] w fun e w' => RetNw w.heap.size e w' n [⟨k0, q0, []⟩] ∧ Below w.heap.size w w' := by
  have hmk := make_1
  have b0 := hid (below_alloc w (.cells #[.slice none 0 0, .slice none 0 0] 27))
  have kB : Hid (CellsAt _ w.heap.size #[.slice none 0 0, .slice none 0 0] 27) := hid (cellsAt_alloc w _ _)
  have hkl := hk.lt
  have hql := hq.lt
  replace hk := hid (hk.below b0.out)
  replace hq := hid (hq.below b0.out)
  replace hok := hid hok
  have hszw : Hid ((w.alloc (.cells #[.slice none 0 0, .slice none 0 0] 27)).heap.size = w.heap.size + 1) := hid (by simp)
  go_enter Tryz.func37, Tryz.ntmps37
  go_upto_region 1 with fail
  generalize w.alloc (.cells #[.slice none 0 0, .slice none 0 0] 27) = w0 at *
  go_wp2_with fail
  refine (storeNew_ok n w0 hn).mono ?_
  rintro e w1 ⟨⟨g, c, rfl, hg, hgl, hBl⟩, b1⟩
  replace hk := hid (hk.out.below b1)
  replace hq := hid (hq.out.below b1)
  replace kB := hid (kB.out.below b1)
  replace b0 := hid (Below.tr b0.out b1)
  clear b1
  have bS := hid (below_alloc w1 (.cells #[.slice (some ⟨g, 0, none⟩) n c] 24))
  have kS : Hid (CellsAt _ w1.heap.size #[.slice (some ⟨g, 0, none⟩) n c] 24) := hid (cellsAt_alloc w1 _ _)
  replace hBl := hid hBl
  go_wp2_with fail
  go_cut [10] from 28 (fun v10 wc => ∃ pb tb, v10 = .pointer (some ⟨pb, 0, none⟩) ∧ CellsAt wc pb #[.slice (some ⟨g, 0, none⟩) n c, .slice (some ⟨tb, 0, none⟩) 1 1] 27 ∧ CellsAt wc tb #[.int .i64 0, .int .i64 0, .slice none 0 0] 42 ∧ Below w1.heap.size w1 wc ∧ pb ≠ tb ∧ w1.heap.size ≤ pb ∧ w1.heap.size ≤ tb)
  case first =>
    go_region
    all_goals (go_wp2_with fail; go_meet)
    · exact ⟨w1.heap.size + 1 + 1, w1.heap.size + 1, rfl, (cellsAt_alloc3 w1 _ _ _ _).below (below_drew _ _), ((cellsAt_alloc2 w1 _ _ _).below (below_alloc _ _)).below (below_drew _ _), (((below_alloc w1 _).alloc (by simp) _).alloc (by simp; omega) _).drew, by omega, by omega, by omega⟩
    · exact ⟨w1.heap.size + 1, w1.heap.size + 1 + 1, rfl, ((cellsAt_alloc2 w1 _ _ _).below (below_alloc _ _)).below (below_drew _ _), (cellsAt_alloc3 w1 _ _ _ _).below (below_drew _ _), (((below_alloc w1 _).alloc (by simp) _).alloc (by simp; omega) _).drew, by omega, by omega, by omega⟩
  case rest =>
    obtain ⟨pb, tb, rfl, hp, ht, bc, hne, hpb, htb⟩ := hcut
    clear kS bS
    have hs0 := b0.out.size
    have hkd : kb ≠ tb := by omega
    have hqd : qb ≠ tb := by omega
    have hpl := hp.lt
    have d0 := hp.cell 0
    have d1 := hp.cell 1
    simp at d0 d1
    replace hp := hid hp
    replace ht := hid ht
    go_wp2_with fail
    clear d0 d1
    go_loopw [36] (fun v wr => ∃ j : Nat, v = .int .i64 j ∧ Kept tb wc wr ∧ ((j = 0 ∧ CellsAt wr tb #[.int .i64 0, .int .i64 0, .slice none 0 0] 42) ∨ (j = 1 ∧ CellsAt wr tb #[.int .i64 k0, .int .i64 q0, .slice none 0 0] 42))) (fun v _ => 1 - (Go.RowKit.intOf v).toNat)
    case atStart => exact ⟨0, rfl, Kept.refl _ _, .inl ⟨rfl, ht.out⟩⟩
    case round =>
      clear ht
      obtain ⟨j, rfl, hkp, hst⟩ := hrel
      have hpw := (Only.of_kept (M := fun k => k = tb) hkp rfl).cells hp.out hne
      have p0 := hpw.cell 0
      have p1 := hpw.cell 1
      simp at p0 p1
      have hkw := (Only.of_kept (M := fun k => k = tb) hkp rfl).cells (hk.out.below bc) hkd
      have hqw := (Only.of_kept (M := fun k => k = tb) hkp rfl).cells (hq.out.below bc) hqd
      replace hpw := hid hpw
      rcases hst with ⟨rfl, ht⟩ | ⟨rfl, ht⟩
      · have y0 := ht.cell 0
        have y1 := ht.cell 1
        have y2 := ht.cell 2
        have z0 := ht.frozen 0
        have z1 := ht.frozen 1
        have z2 := ht.frozen 2
        have x0 := hkw.cell 0
        have x1 := hqw.cell 0
        simp at y0 y1 y2 x0 x1
        have ht2 := ((ht.set 0 (.int .i64 k0)).set 1 (.int .i64 q0)).set 2 (.slice none 0 0)
        simp only [List.setIfInBounds_toArray, List.set_cons_succ, List.set_cons_zero] at ht2
        replace ht2 := hid ht2
        have hk2 := hid (hkp.trans (Kept.setCell (g := tb) (Kept.setCell (g := tb) (Kept.setCell (g := tb) (Kept.refl _ wr) (p := ⟨tb, 0, none⟩) rfl (.int .i64 k0)) (p := ⟨tb, 1, none⟩) rfl (.int .i64 q0)) (p := ⟨tb, 2, none⟩) rfl (.slice none 0 0)))
        clear ht
        go_wp2_with fail
        go_region
        all_goals (go_wp2_with fail; go_roundw)
        all_goals first
          | exact ⟨1, by go_num, hk2.out.trans (kept_drew _ _), .inr (⟨rfl, ht2.out.below (below_drew _ _)⟩)⟩
          | (simp [Go.RowKit.intOf])
      · replace hkw := hid hkw
        replace hqw := hid hqw
        have hgt : g ≠ tb := by omega
        have hw0 : Hid (w.heap.size < w0.heap.size) := hid (by have := hszw.out; omega)
        have hBw := Blocks.kept (g := tb) ((Blocks.weaken hBl.out (R := fun b => w0.heap.size ≤ b ∧ b < w1.heap.size) (fun b hb q => ⟨q, hb⟩)).below bc) hgt (fun b hb e => by omega) hkp
        have hSt : StoreAt wr (some ⟨g, 0, none⟩) n (fun _ => Blk.zero) := fun _ => ⟨g, 0, rfl, by rw [hkp.size]; have := bc.size; omega, Blocks.weaken hBw (fun _ _ _ => trivial)⟩
        have hTn : TensAt (fun b => w1.heap.size ≤ b) wr (some ⟨tb, 0, none⟩) 1 [⟨k0, q0, []⟩] := ⟨rfl, fun _ => ⟨tb, 0, rfl, ht.lt, htb, fun i hi => by
          obtain rfl : i = 0 := by omega
          exact ⟨none, 0, 0, ht.cell 0, ht.cell 1, ht.cell 2, setsAt_nil _ _ _, hb.1, hb.2, Nat.le_refl _⟩⟩⟩
        have bT := hid (b0.out.trans ((bc.trans (hkp.below htb)).mono hs0))
        have hP : Hid (PoolAt (fun _ => True) wr (some ⟨g, 0, none⟩) n (fun _ => Blk.zero) (some ⟨tb, 0, none⟩) 1 [⟨k0, q0, []⟩]) := hid ⟨hSt, hTn.weaken (fun _ _ _ => trivial)⟩
        have hBw' := hid hBw
        have hTn' := hid hTn
        clear ht hSt hTn hBw
        go_wp2_with fail
        refine (poolCheck_any (fun _ => True) (some ⟨g, 0, none⟩) n c (fun _ => Blk.zero) (some ⟨tb, 0, none⟩) 1 1 [⟨k0, q0, []⟩] wr hP.out).mono ?_
        rintro e w4 ⟨⟨e4, rfl, he4⟩, b4⟩
        obtain rfl : e4 = 0 := he4.2 hok.out
        have hp4 := hpw.out.below b4
        have kB4 := ((Only.of_kept (M := fun k => k = tb) hkp rfl).cells (kB.out.below bc) (by have := kB.out.lt; omega)).below b4
        have r0 := hp4.cell 0
        have r1 := hp4.cell 1
        have s0 := kB4.cell 0
        have s1 := kB4.cell 1
        have s2 := kB4.frozen 0
        have s3 := kB4.frozen 1
        simp at r0 r1 s0 s1
        have kf := kept_put2v w4 w.heap.size (.slice (some ⟨g, 0, none⟩) n c) (.slice (some ⟨tb, 0, none⟩) 1 1)
        have bF := hid ((Below.tr bT.out b4).trans (kf.below (Nat.le_refl _)))
        have hBf := hid (Blocks.kept (g := w.heap.size) (hBw'.out.below b4) (by have := hw0.out; omega) (fun b hb e => by have := hw0.out; omega) kf)
        have hTf := hid ((Only.of_kept (M := fun k => k = w.heap.size) kf rfl).tens (hTn'.out.below b4) (fun b hb e => by have := hw0.out; omega))
        have hgF : Hid (g < (put2v w4 w.heap.size (.slice (some ⟨g, 0, none⟩) n c) (.slice (some ⟨tb, 0, none⟩) 1 1)).heap.size) := hid (by rw [kf.size]; have := b4.size; have := bc.size; rw [hkp.size] at *; omega)
        have cF := hid (cells_put2v (.slice (some ⟨g, 0, none⟩) n c) (.slice (some ⟨tb, 0, none⟩) 1 1) kB4)
        clear he4 hp4 kB4 kf b4 p0 p1
        unfold put2v at bF hBf hTf hgF cF
        go_wp2_with fail
        have c0 := cF.out.cell 0
        have c1 := cF.out.cell 1
        simp only [List.getElem?_toArray, List.getElem?_cons_zero, List.getElem?_cons_succ] at c0 c1
        refine bodyPost_ret (v := .tuple #[.agg #[.slice (some ⟨g, 0, none⟩) n c, .slice (some ⟨tb, 0, none⟩) 1 1], .int .i64 0]) (by rw [results_cell_tmp rfl]; go_simp) rfl ⟨⟨_, c, _, 1, 1, rfl, ⟨fun _ => ⟨g, 0, rfl, hgF.out, Blocks.weaken hBf.out (fun _ _ _ => trivial)⟩, hTf.out.weaken (fun _ _ _ => trivial)⟩, Nat.le_refl _⟩, bF.out⟩

theorem make_2 (w : World) : (Instr.makeSlice 25 (.int .i64 2) (.int .i64 2)).run Tryz.prog w = .ok (.slice (some ⟨w.heap.size, 0, none⟩) 2 2) (w.alloc (.cells #[.int .i64 0, .int .i64 0, .slice none 0 0, .int .i64 0, .int .i64 0, .slice none 0 0] 42)) := by
  obtain ⟨i0, hi, hz0, hz1, hz2⟩ := info_parts Tryz.infoT
  rw [run_makeSlice (P := Tryz.prog) w 25 42 i0 _ Tryz.underlying25 hi hz0 .i64 .i64 2 2 (by omega) (by omega) (by rw [hz1]; decide) (by rw [hz2]; decide) (by decide), hz1]
  have e : madeCells (Value.agg #[.int .i64 0, .int .i64 0, .slice none 0 0]).cells (Int.toNat 2 * 3) = #[.int .i64 0, .int .i64 0, .slice none 0 0, .int .i64 0, .int .i64 0, .slice none 0 0] := by
    first
    | rfl
    | simp [madeCells, Value.cells, Array.range_succ, Array.range_zero']
    | kernel_rfl
  rw [e]
  rfl

set_option maxHeartbeats 4000000 in
set_option maxRecDepth 100000 in
theorem new2_any (n : Nat) (k0 k1 q0 q1 : Int) (kb qb : Nat) (w : World) (hn : n ≤ 400) (hk : CellsAt w kb #[.int .i64 k0, .int .i64 k1] 3) (hq : CellsAt w qb #[.int .i64 q0, .int .i64 q1] 3) (hb : (-9223372036854775808 ≤ k0 ∧ k0 ≤ 9223372036854775807) ∧ (-9223372036854775808 ≤ k1 ∧ k1 ≤ 9223372036854775807) ∧ (-9223372036854775808 ≤ q0 ∧ q0 ≤ 9223372036854775807) ∧ (-9223372036854775808 ≤ q1 ∧ q1 ≤ 9223372036854775807)) (hok : PoolOk n (fun _ => Blk.zero) [⟨k0, q0, []⟩, ⟨k1, q1, []⟩]) :
    Calls Tryz.prog 37 #[.int .i64 n, .slice (some ⟨kb, 0, none⟩) 2 2, .slice (some ⟨qb, 0, none⟩) 2 2] w fun e w' => RetNw w.heap.size e w' n [⟨k0, q0, []⟩, ⟨k1, q1, []⟩] ∧ Below w.heap.size w w' := by
  have hmk := make_2
  have b0 := hid (below_alloc w (.cells #[.slice none 0 0, .slice none 0 0] 27))
  have kB : Hid (CellsAt _ w.heap.size #[.slice none 0 0, .slice none 0 0] 27) := hid (cellsAt_alloc w _ _)
  have hkl := hk.lt
  have hql := hq.lt
  replace hk := hid (hk.below b0.out)
  replace hq := hid (hq.below b0.out)
  replace hok := hid hok
  have hszw : Hid ((w.alloc (.cells #[.slice none 0 0, .slice none 0 0] 27)).heap.size = w.heap.size + 1) := hid (by simp)
  go_enter Tryz.func37, Tryz.ntmps37
  go_upto_region 1 with fail
  generalize w.alloc (.cells #[.slice none 0 0, .slice none 0 0] 27) = w0 at *
  go_wp2_with fail
  refine (storeNew_ok n w0 hn).mono ?_
  rintro e w1 ⟨⟨g, c, rfl, hg, hgl, hBl⟩, b1⟩
  replace hk := hid (hk.out.below b1)
  replace hq := hid (hq.out.below b1)
  replace kB := hid (kB.out.below b1)
  replace b0 := hid (Below.tr b0.out b1)
  clear b1
  have bS := hid (below_alloc w1 (.cells #[.slice (some ⟨g, 0, none⟩) n c] 24))
  have kS : Hid (CellsAt _ w1.heap.size #[.slice (some ⟨g, 0, none⟩) n c] 24) := hid (cellsAt_alloc w1 _ _)
  replace hBl := hid hBl
  go_wp2_with fail
  go_cut [10] from 28 (fun v10 wc => ∃ pb tb, v10 = .pointer (some ⟨pb, 0, none⟩) ∧ CellsAt wc pb #[.slice (some ⟨g, 0, none⟩) n c, .slice (some ⟨tb, 0, none⟩) 2 2] 27 ∧ CellsAt wc tb #[.int .i64 0, .int .i64 0, .slice none 0 0, .int .i64 0, .int .i64 0, .slice none 0 0] 42 ∧ Below w1.heap.size w1 wc ∧ pb ≠ tb ∧ w1.heap.size ≤ pb ∧ w1.heap.size ≤ tb)
  case first =>
    go_region
    all_goals (go_wp2_with fail; go_meet)
    · exact ⟨w1.heap.size + 1 + 1, w1.heap.size + 1, rfl, (cellsAt_alloc3 w1 _ _ _ _).below (below_drew _ _), ((cellsAt_alloc2 w1 _ _ _).below (below_alloc _ _)).below (below_drew _ _), (((below_alloc w1 _).alloc (by simp) _).alloc (by simp; omega) _).drew, by omega, by omega, by omega⟩
    · exact ⟨w1.heap.size + 1, w1.heap.size + 1 + 1, rfl, ((cellsAt_alloc2 w1 _ _ _).below (below_alloc _ _)).below (below_drew _ _), (cellsAt_alloc3 w1 _ _ _ _).below (below_drew _ _), (((below_alloc w1 _).alloc (by simp) _).alloc (by simp; omega) _).drew, by omega, by omega, by omega⟩
  case rest =>
    obtain ⟨pb, tb, rfl, hp, ht, bc, hne, hpb, htb⟩ := hcut
    clear kS bS
    have hs0 := b0.out.size
    have hkd : kb ≠ tb := by omega
    have hqd : qb ≠ tb := by omega
    have hpl := hp.lt
    have d0 := hp.cell 0
    have d1 := hp.cell 1
    simp at d0 d1
    replace hp := hid hp
    replace ht := hid ht
    go_wp2_with fail
    clear d0 d1
    go_loopw [36] (fun v wr => ∃ j : Nat, v = .int .i64 j ∧ Kept tb wc wr ∧ ((j = 0 ∧ CellsAt wr tb #[.int .i64 0, .int .i64 0, .slice none 0 0, .int .i64 0, .int .i64 0, .slice none 0 0] 42) ∨ (j = 1 ∧ CellsAt wr tb #[.int .i64 k0, .int .i64 q0, .slice none 0 0, .int .i64 0, .int .i64 0, .slice none 0 0] 42) ∨ (j = 2 ∧ CellsAt wr tb #[.int .i64 k0, .int .i64 q0, .slice none 0 0, .int .i64 k1, .int .i64 q1, .slice none 0 0] 42))) (fun v _ => 2 - (Go.RowKit.intOf v).toNat)
    case atStart => exact ⟨0, rfl, Kept.refl _ _, .inl ⟨rfl, ht.out⟩⟩
    case round =>
      clear ht
      obtain ⟨j, rfl, hkp, hst⟩ := hrel
      have hpw := (Only.of_kept (M := fun k => k = tb) hkp rfl).cells hp.out hne
      have p0 := hpw.cell 0
      have p1 := hpw.cell 1
      simp at p0 p1
      have hkw := (Only.of_kept (M := fun k => k = tb) hkp rfl).cells (hk.out.below bc) hkd
      have hqw := (Only.of_kept (M := fun k => k = tb) hkp rfl).cells (hq.out.below bc) hqd
      replace hpw := hid hpw
      rcases hst with ⟨rfl, ht⟩ | ⟨rfl, ht⟩ | ⟨rfl, ht⟩
      · have y0 := ht.cell 0
        have y1 := ht.cell 1
        have y2 := ht.cell 2
        have z0 := ht.frozen 0
        have z1 := ht.frozen 1
        have z2 := ht.frozen 2
        have x0 := hkw.cell 0
        have x1 := hqw.cell 0
        simp at y0 y1 y2 x0 x1
        have ht2 := ((ht.set 0 (.int .i64 k0)).set 1 (.int .i64 q0)).set 2 (.slice none 0 0)
        simp only [List.setIfInBounds_toArray, List.set_cons_succ, List.set_cons_zero] at ht2
        replace ht2 := hid ht2
        have hk2 := hid (hkp.trans (Kept.setCell (g := tb) (Kept.setCell (g := tb) (Kept.setCell (g := tb) (Kept.refl _ wr) (p := ⟨tb, 0, none⟩) rfl (.int .i64 k0)) (p := ⟨tb, 1, none⟩) rfl (.int .i64 q0)) (p := ⟨tb, 2, none⟩) rfl (.slice none 0 0)))
        clear ht
        go_wp2_with fail
        go_region
        all_goals (go_wp2_with fail; go_roundw)
        all_goals first
          | exact ⟨1, by go_num, hk2.out.trans (kept_drew _ _), .inr (.inl ⟨rfl, ht2.out.below (below_drew _ _)⟩)⟩
          | (simp [Go.RowKit.intOf])
      · have y0 := ht.cell 3
        have y1 := ht.cell 4
        have y2 := ht.cell 5
        have z0 := ht.frozen 3
        have z1 := ht.frozen 4
        have z2 := ht.frozen 5
        have x0 := hkw.cell 1
        have x1 := hqw.cell 1
        simp at y0 y1 y2 x0 x1
        have ht2 := ((ht.set 3 (.int .i64 k1)).set 4 (.int .i64 q1)).set 5 (.slice none 0 0)
        simp only [List.setIfInBounds_toArray, List.set_cons_succ, List.set_cons_zero] at ht2
        replace ht2 := hid ht2
        have hk2 := hid (hkp.trans (Kept.setCell (g := tb) (Kept.setCell (g := tb) (Kept.setCell (g := tb) (Kept.refl _ wr) (p := ⟨tb, 3, none⟩) rfl (.int .i64 k1)) (p := ⟨tb, 4, none⟩) rfl (.int .i64 q1)) (p := ⟨tb, 5, none⟩) rfl (.slice none 0 0)))
        clear ht
        go_wp2_with fail
        go_region
        all_goals (go_wp2_with fail; go_roundw)
        all_goals first
          | exact ⟨2, by go_num, hk2.out.trans (kept_drew _ _), .inr (.inr (⟨rfl, ht2.out.below (below_drew _ _)⟩))⟩
          | (simp [Go.RowKit.intOf])
      · replace hkw := hid hkw
        replace hqw := hid hqw
        have hgt : g ≠ tb := by omega
        have hw0 : Hid (w.heap.size < w0.heap.size) := hid (by have := hszw.out; omega)
        have hBw := Blocks.kept (g := tb) ((Blocks.weaken hBl.out (R := fun b => w0.heap.size ≤ b ∧ b < w1.heap.size) (fun b hb q => ⟨q, hb⟩)).below bc) hgt (fun b hb e => by omega) hkp
        have hSt : StoreAt wr (some ⟨g, 0, none⟩) n (fun _ => Blk.zero) := fun _ => ⟨g, 0, rfl, by rw [hkp.size]; have := bc.size; omega, Blocks.weaken hBw (fun _ _ _ => trivial)⟩
        have hTn : TensAt (fun b => w1.heap.size ≤ b) wr (some ⟨tb, 0, none⟩) 2 [⟨k0, q0, []⟩, ⟨k1, q1, []⟩] := ⟨rfl, fun _ => ⟨tb, 0, rfl, ht.lt, htb, fun i hi => by
          rcases (by omega : i = 0 ∨ i = 1) with rfl | rfl
          · exact ⟨none, 0, 0, ht.cell 0, ht.cell 1, ht.cell 2, setsAt_nil _ _ _, hb.1, hb.2.2.1, Nat.le_refl _⟩
          · exact ⟨none, 0, 0, ht.cell 3, ht.cell 4, ht.cell 5, setsAt_nil _ _ _, hb.2.1, hb.2.2.2, Nat.le_refl _⟩⟩⟩
        have bT := hid (b0.out.trans ((bc.trans (hkp.below htb)).mono hs0))
        have hP : Hid (PoolAt (fun _ => True) wr (some ⟨g, 0, none⟩) n (fun _ => Blk.zero) (some ⟨tb, 0, none⟩) 2 [⟨k0, q0, []⟩, ⟨k1, q1, []⟩]) := hid ⟨hSt, hTn.weaken (fun _ _ _ => trivial)⟩
        have hBw' := hid hBw
        have hTn' := hid hTn
        clear ht hSt hTn hBw
        go_wp2_with fail
        refine (poolCheck_any (fun _ => True) (some ⟨g, 0, none⟩) n c (fun _ => Blk.zero) (some ⟨tb, 0, none⟩) 2 2 [⟨k0, q0, []⟩, ⟨k1, q1, []⟩] wr hP.out).mono ?_
        rintro e w4 ⟨⟨e4, rfl, he4⟩, b4⟩
        obtain rfl : e4 = 0 := he4.2 hok.out
        have hp4 := hpw.out.below b4
        have kB4 := ((Only.of_kept (M := fun k => k = tb) hkp rfl).cells (kB.out.below bc) (by have := kB.out.lt; omega)).below b4
        have r0 := hp4.cell 0
        have r1 := hp4.cell 1
        have s0 := kB4.cell 0
        have s1 := kB4.cell 1
        have s2 := kB4.frozen 0
        have s3 := kB4.frozen 1
        simp at r0 r1 s0 s1
        have kf := kept_put2v w4 w.heap.size (.slice (some ⟨g, 0, none⟩) n c) (.slice (some ⟨tb, 0, none⟩) 2 2)
        have bF := hid ((Below.tr bT.out b4).trans (kf.below (Nat.le_refl _)))
        have hBf := hid (Blocks.kept (g := w.heap.size) (hBw'.out.below b4) (by have := hw0.out; omega) (fun b hb e => by have := hw0.out; omega) kf)
        have hTf := hid ((Only.of_kept (M := fun k => k = w.heap.size) kf rfl).tens (hTn'.out.below b4) (fun b hb e => by have := hw0.out; omega))
        have hgF : Hid (g < (put2v w4 w.heap.size (.slice (some ⟨g, 0, none⟩) n c) (.slice (some ⟨tb, 0, none⟩) 2 2)).heap.size) := hid (by rw [kf.size]; have := b4.size; have := bc.size; rw [hkp.size] at *; omega)
        have cF := hid (cells_put2v (.slice (some ⟨g, 0, none⟩) n c) (.slice (some ⟨tb, 0, none⟩) 2 2) kB4)
        clear he4 hp4 kB4 kf b4 p0 p1
        unfold put2v at bF hBf hTf hgF cF
        go_wp2_with fail
        have c0 := cF.out.cell 0
        have c1 := cF.out.cell 1
        simp only [List.getElem?_toArray, List.getElem?_cons_zero, List.getElem?_cons_succ] at c0 c1
        refine bodyPost_ret (v := .tuple #[.agg #[.slice (some ⟨g, 0, none⟩) n c, .slice (some ⟨tb, 0, none⟩) 2 2], .int .i64 0]) (by rw [results_cell_tmp rfl]; go_simp) rfl ⟨⟨_, c, _, 2, 2, rfl, ⟨fun _ => ⟨g, 0, rfl, hgF.out, Blocks.weaken hBf.out (fun _ _ _ => trivial)⟩, hTf.out.weaken (fun _ _ _ => trivial)⟩, Nat.le_refl _⟩, bF.out⟩
end Go.Proofs.YtmpedoklljhdbaaGreat
