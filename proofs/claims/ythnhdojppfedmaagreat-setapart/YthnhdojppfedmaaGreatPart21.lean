/-
  Sets4 in one text. Nothing here is trusted.
-/
import Derived.Test.YthnhdojppfedmaaGreatPart12
set_option linter.unusedVariables false
namespace Go.Proofs.YthnhdojppfedmaaGreat

theorem count_snap_insert {l : List SnapE} (p : Nat) (x : SnapE) (r : Int) : (rootsS (l.take p ++ x :: l.drop p)).count r = (rootsS l).count r + (rootsE x.files).count r := by
  have e : rootsS l = rootsS (l.take p) ++ rootsS (l.drop p) := by rw [← rootsS_append, List.take_append_drop]
  rw [e, rootsS_append]
  show (rootsS (l.take p) ++ (rootsE x.files ++ rootsS (l.drop p))).count r = _
  simp only [List.count_append]
  omega
theorem count_snap_erase {l : List SnapE} {p : Nat} (hp : p < l.length) (r : Int) : (rootsS (l.eraseIdx p)).count r + (rootsE (l[p]).files).count r = (rootsS l).count r := by
  have e : l = l.take p ++ l[p] :: l.drop (p + 1) := by rw [List.getElem_cons_drop, List.take_append_drop]
  have e2 : rootsS l = rootsS (l.take p) ++ (rootsE l[p].files ++ rootsS (l.drop (p + 1))) := by
    conv => lhs; rw [e]
    rw [rootsS_append]; rfl
  rw [List.eraseIdx_eq_take_drop_succ, rootsS_append, e2]
  simp only [List.count_append]
  omega
theorem mem_insert {α : Type} {l : List α} {p : Nat} {x z : α} : z ∈ l.take p ++ x :: l.drop p ↔ z = x ∨ z ∈ l := by
  have : z ∈ l ↔ z ∈ l.take p ++ l.drop p := by rw [List.take_append_drop]
  rw [this, List.mem_append, List.mem_append, List.mem_cons]
  constructor
  · rintro (h | h | h)
    · exact .inr (.inl h)
    · exact .inl h
    · exact .inr (.inr h)
  · rintro (h | h | h)
    · exact .inr (.inl h)
    · exact .inl h
    · exact .inr (.inr h)
theorem mem_set_or {α : Type} {l : List α} {p : Nat} {x z : α} (h : z ∈ l.set p x) : z = x ∨ z ∈ l := (List.mem_or_eq_of_mem_set h).symm
theorem length_insert {α : Type} (l : List α) (p : Nat) (x : α) : (l.take p ++ x :: l.drop p).length = l.length + 1 := by
  have e : l.length = (l.take p ++ l.drop p).length := by rw [List.take_append_drop]
  rw [e]; simp; omega
theorem fell_none {n : Nat} {B : Nat → Blk} (h : Right n B) : Fell n B B [] := fell_nil h.one

/-- a file that is there is turned -/
theorem after_write {n : Nat} {key a z : Int} {B C D : Nat → Blk} {x : SetE} {p : Nat} (hx : SetOk n B key x) (hh : HeldR n B (rootsX x)) (hp : p < x.files.length) (hg : Grow n B C [a]) (hf : FileOk n C key a z) (hD : Right n D) (hF : Fell n C D [(x.files[p]).root]) :
    After n key B D x { x with files := x.files.set p ⟨(x.files[p]).name, a, z⟩ } ∧ fileL key (leafAt D 3 a) = fileL key (leafAt C 3 a) := by
  have hs := hx.shape
  have hmem : x.files[p] ∈ x.files := List.getElem_mem hp
  obtain ⟨h1, h2⟩ := after_of (y := { x with files := x.files.set p ⟨(x.files[p]).name, a, z⟩ }) hx hh hg hD hF (fun r hr => by
      have := count_set hp ⟨(x.files[p]).name, a, z⟩ r
      unfold rootsX
      simp only [List.count_append]
      show _ + _ + [(x.files[p]).root].count r = _ + _ + [a].count r
      have e : [(Ent.mk (x.files[p]).name a z).root].count r = [a].count r := rfl
      rw [e] at this
      omega)
    ⟨hs.name, by simpa using hs.few, fun e he => by
      rcases mem_set_or he with rfl | h
      · exact hs.names x.files[p] hmem
      · exact hs.names e h, ordered_set hs.order hp rfl, hs.fewS, hs.namesS, hs.orderS, hs.filesS⟩ (fun e he => by
      rcases List.mem_append.1 he with h | h
      · rcases mem_set_or h with rfl | h
        · exact hf
        · exact grow_files hx hg e (List.mem_append_left _ h)
      · exact grow_files hx hg e (List.mem_append_right _ h))
  exact ⟨h1, h2 ⟨(x.files[p]).name, a, z⟩ (List.mem_append_left _ (List.mem_set hp _))⟩
/-- a file that is new -/
theorem after_new {n : Nat} {key a z : Int} {B C : Nat → Blk} {x : SetE} {p : Nat} {nm : ByteArray} (hx : SetOk n B key x) (hh : HeldR n B (rootsX x)) (h6 : x.files.length < 6) (hn : IsName nm) (h1 : ∀ e ∈ x.files.take p, e.nm < nm.data.toList) (h2 : ∀ e ∈ x.files.drop p, nm.data.toList < e.nm) (hg : Grow n B C [a]) (hf : FileOk n C key a z) :
    After n key B C x { x with files := x.files.take p ++ ⟨nm, a, z⟩ :: x.files.drop p } := by
  have hs := hx.shape
  refine (after_of (y := { x with files := x.files.take p ++ ⟨nm, a, z⟩ :: x.files.drop p }) hx hh hg hg.right (fell_none hg.right) (fun r hr => by
      have := count_insert (l := x.files) p ⟨nm, a, z⟩ r
      have e : [(Ent.mk nm a z).root].count r = [a].count r := rfl
      rw [e] at this
      unfold rootsX
      simp only [List.count_append, List.count_nil]
      omega)
    ⟨hs.name, by show (_ : Nat) ≤ 6; rw [length_insert]; omega, fun e he => by
      rcases mem_insert.1 he with rfl | h
      · exact hn
      · exact hs.names e h, ordered_insert (f := Ent.nm) hs.order h1 h2, hs.fewS, hs.namesS, hs.orderS, hs.filesS⟩ (fun e he => by
      rcases List.mem_append.1 he with h | h
      · rcases mem_insert.1 h with rfl | h
        · exact hf
        · exact grow_files hx hg e (List.mem_append_left _ h)
      · exact grow_files hx hg e (List.mem_append_right _ h))).1
/-- a file that is let go -/
theorem after_remove {n : Nat} {key : Int} {B D : Nat → Blk} {x : SetE} {p : Nat} (hx : SetOk n B key x) (hh : HeldR n B (rootsX x)) (hp : p < x.files.length) (hD : Right n D) (hF : Fell n B D [(x.files[p]).root]) : After n key B D x { x with files := x.files.eraseIdx p } := by
  have hs := hx.shape
  refine (after_of (y := { x with files := x.files.eraseIdx p }) hx hh (grow_nil hx.right) hD hF (fun r hr => by
      have := count_erase hp r
      unfold rootsX
      simp only [List.count_append, List.count_nil]
      omega)
    ⟨hs.name, Nat.le_trans (List.eraseIdx_sublist _ _).length_le hs.few, fun e he => hs.names e ((List.eraseIdx_sublist _ _).subset he), ordered_erase hs.order p, hs.fewS, hs.namesS, hs.orderS, hs.filesS⟩ (fun e he => by
      rcases List.mem_append.1 he with h | h
      · exact hx.ents e (List.mem_append_left _ ((List.eraseIdx_sublist _ _).subset h))
      · exact hx.ents e (List.mem_append_right _ h))).1
/-- another name -/
theorem after_rename {n : Nat} {key : Int} {B : Nat → Blk} {x : SetE} {p q : Nat} {nm : ByteArray} (hx : SetOk n B key x) (hh : HeldR n B (rootsX x)) (hp : p < x.files.length) (hn : IsName nm) (h1 : ∀ e ∈ (x.files.eraseIdx p).take q, e.nm < nm.data.toList) (h2 : ∀ e ∈ (x.files.eraseIdx p).drop q, nm.data.toList < e.nm) :
    After n key B B x { x with files := (x.files.eraseIdx p).take q ++ ⟨nm, (x.files[p]).root, (x.files[p]).size⟩ :: (x.files.eraseIdx p).drop q } := by
  have hs := hx.shape
  have hmem : x.files[p] ∈ x.files := List.getElem_mem hp
  refine (after_of (y := { x with files := (x.files.eraseIdx p).take q ++ ⟨nm, (x.files[p]).root, (x.files[p]).size⟩ :: (x.files.eraseIdx p).drop q }) hx hh (grow_nil hx.right) hx.right (fell_none hx.right) (fun r hr => by
      have := count_erase hp r
      have h3 := count_insert (l := x.files.eraseIdx p) q ⟨nm, (x.files[p]).root, (x.files[p]).size⟩ r
      have e : [(Ent.mk nm (x.files[p]).root (x.files[p]).size).root].count r = [(x.files[p]).root].count r := rfl
      rw [e] at h3
      unfold rootsX
      simp only [List.count_append, List.count_nil]
      omega)
    ⟨hs.name, by show (_ : Nat) ≤ 6; rw [length_insert, List.length_eraseIdx, if_pos hp]; have := hs.few; omega, fun e he => by
      rcases mem_insert.1 he with rfl | h
      · exact hn
      · exact hs.names e ((List.eraseIdx_sublist _ _).subset h), ordered_insert (f := Ent.nm) (ordered_erase hs.order p) h1 h2, hs.fewS, hs.namesS, hs.orderS, hs.filesS⟩ (fun e he => by
      rcases List.mem_append.1 he with h | h
      · rcases mem_insert.1 h with rfl | h
        · exact hx.ents x.files[p] (List.mem_append_left _ hmem)
        · exact hx.ents e (List.mem_append_left _ ((List.eraseIdx_sublist _ _).subset h))
      · exact hx.ents e (List.mem_append_right _ h))).1
/-- a snap -/
theorem after_snapshot {n : Nat} {key : Int} {B C : Nat → Blk} {x : SetE} {q : Nat} {nm : ByteArray} (hx : SetOk n B key x) (hh : HeldR n B (rootsX x)) (h3 : x.snaps.length < 3) (hn : IsName nm) (h1 : ∀ e ∈ x.snaps.take q, e.nm < nm.data.toList) (h2 : ∀ e ∈ x.snaps.drop q, nm.data.toList < e.nm) (hg : Grow n B C (rootsE x.files)) :
    After n key B C x { x with snaps := x.snaps.take q ++ ⟨nm, x.files⟩ :: x.snaps.drop q } := by
  have hs := hx.shape
  refine (after_of (y := { x with snaps := x.snaps.take q ++ ⟨nm, x.files⟩ :: x.snaps.drop q }) hx hh hg hg.right (fell_none hg.right) (fun r hr => by
      have := count_snap_insert (l := x.snaps) q ⟨nm, x.files⟩ r
      have e : (rootsE (SnapE.mk nm x.files).files).count r = (rootsE x.files).count r := rfl
      rw [e] at this
      unfold rootsX
      simp only [List.count_append, List.count_nil]
      omega)
    ⟨hs.name, hs.few, hs.names, hs.order, by show (_ : Nat) ≤ 3; rw [length_insert]; omega, fun s hsm => by
      rcases mem_insert.1 hsm with rfl | h
      · exact hn
      · exact hs.namesS s h, ordered_insert (f := SnapE.nm) hs.orderS h1 h2, fun s hsm => by
      rcases mem_insert.1 hsm with rfl | h
      · exact ⟨hs.few, hs.names, hs.order⟩
      · exact hs.filesS s h⟩ (fun e he => by
      rcases List.mem_append.1 he with h | h
      · exact grow_files hx hg e (List.mem_append_left _ h)
      · obtain ⟨s, hsm, h⟩ := List.mem_flatMap.1 h
        rcases mem_insert.1 hsm with rfl | hsm
        · exact grow_files hx hg e (List.mem_append_left _ h)
        · exact grow_files hx hg e (List.mem_append_right _ (List.mem_flatMap.2 ⟨s, hsm, h⟩)))).1
/-- a snap that is let go -/
theorem after_forget {n : Nat} {key : Int} {B D : Nat → Blk} {x : SetE} {q : Nat} (hx : SetOk n B key x) (hh : HeldR n B (rootsX x)) (hq : q < x.snaps.length) (hD : Right n D) (hF : Fell n B D (rootsE (x.snaps[q]).files)) : After n key B D x { x with snaps := x.snaps.eraseIdx q } := by
  have hs := hx.shape
  have hsub := fun s (h : s ∈ x.snaps.eraseIdx q) => (List.eraseIdx_sublist x.snaps q).subset h
  refine (after_of (y := { x with snaps := x.snaps.eraseIdx q }) hx hh (grow_nil hx.right) hD hF (fun r hr => by
      have := count_snap_erase hq r
      unfold rootsX
      simp only [List.count_append, List.count_nil]
      omega)
    ⟨hs.name, hs.few, hs.names, hs.order, Nat.le_trans (List.eraseIdx_sublist _ _).length_le hs.fewS, fun s h => hs.namesS s (hsub s h), ordered_erase hs.orderS q, fun s h => hs.filesS s (hsub s h)⟩ (fun e he => by
      rcases List.mem_append.1 he with h | h
      · exact hx.ents e (List.mem_append_left _ h)
      · obtain ⟨s, hsm, h⟩ := List.mem_flatMap.1 h
        exact hx.ents e (List.mem_append_right _ (List.mem_flatMap.2 ⟨s, hsub s hsm, h⟩)))).1
/-- back to a snap -/
theorem after_back {n : Nat} {key : Int} {B C D : Nat → Blk} {x : SetE} {q : Nat} (hx : SetOk n B key x) (hh : HeldR n B (rootsX x)) (hq : q < x.snaps.length) (hg : Grow n B C (rootsE (x.snaps[q]).files)) (hD : Right n D) (hF : Fell n C D (rootsE x.files)) : After n key B D x { x with files := (x.snaps[q]).files } := by
  have hs := hx.shape
  have hmem : x.snaps[q] ∈ x.snaps := List.getElem_mem hq
  refine (after_of (y := { x with files := (x.snaps[q]).files }) hx hh hg hD hF (fun r hr => by
      unfold rootsX
      simp only [List.count_append]
      omega)
    ⟨hs.name, (hs.filesS _ hmem).1, (hs.filesS _ hmem).2.1, (hs.filesS _ hmem).2.2, hs.fewS, hs.namesS, hs.orderS, hs.filesS⟩ (fun e he => by
      rcases List.mem_append.1 he with h | h
      · exact grow_files hx hg e (List.mem_append_right _ (List.mem_flatMap.2 ⟨_, hmem, h⟩))
      · exact grow_files hx hg e (List.mem_append_right _ h))).1
/-- a clone: right, and held besides -/
theorem clone_ok {n : Nat} {key : Int} {B C : Nat → Blk} {x : SetE} {q : Nat} {nm : ByteArray} (hx : SetOk n B key x) (hq : q < x.snaps.length) (hn : IsName nm) (hg : Grow n B C (rootsE (x.snaps[q]).files)) (hh : HeldR n B (rootsX x)) :
    SetOk n C key ⟨nm, (x.snaps[q]).files, []⟩ ∧ HeldR n C (rootsX ⟨nm, (x.snaps[q]).files, []⟩) ∧ SetOk n C key x := by
  have hs := hx.shape
  have hmem : x.snaps[q] ∈ x.snaps := List.getElem_mem hq
  refine ⟨setOk_of hx.kb hg.right ⟨hn, (hs.filesS _ hmem).1, (hs.filesS _ hmem).2.1, (hs.filesS _ hmem).2.2, Nat.zero_le _, by simp, List.Pairwise.nil, by simp⟩ (fun e he => ?_), fun k hk => ?_, setOk_of hx.kb hg.right hs (grow_files hx hg)⟩
  · rcases List.mem_append.1 he with h | h
    · exact grow_files hx hg e (List.mem_append_right _ (List.mem_flatMap.2 ⟨_, hmem, h⟩))
    · simp at h
  · rw [hg.out k hk]
    have := hh k hk
    have e : rootsX ⟨nm, (x.snaps[q]).files, []⟩ = rootsE (x.snaps[q]).files := by simp [rootsX, rootsS]
    rw [e]
    omega
end Go.Proofs.YthnhdojppfedmaaGreat
