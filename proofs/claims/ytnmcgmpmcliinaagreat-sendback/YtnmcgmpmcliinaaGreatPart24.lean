/-
  SetQ, Sets4 in one text. Nothing here is trusted.
-/
import Derived.Test.YtnmcgmpmcliinaaGreatPart23
import Derived.Test.YtnmcgmpmcliinaaGreatPart14
set_option linter.unusedVariables false
namespace Go.Proofs.YtnmcgmpmcliinaaGreat
open Go.RowKit

theorem retDo_of {base : Nat} {L L' : Nat → Prop} {w w1 w2 : World} {yb : Nat} {v v' : SetV} {ok : Prop} {R : SetE → Prop} {y : SetE} {ms : List SnapM} (b1 : Below w.heap.size w w1) (hyl : yb < w.heap.size) (hnl : ¬ L yb) (hok : ok) (hR : R y) (hP : SetP base L' w2 yb v' y ms) (hL : ∀ b, L' b → L b ∨ w.heap.size ≤ b) (on : Only (Mine yb v) w1 w2) (hm : ∀ b, v'.mine b → v.mine b ∨ w1.heap.size ≤ b) :
    RetDo base L w yb v ok R (.returned (.int .i64 0)) w2 := by
  refine ⟨(Only.of_below b1).trans on, .inr ⟨rfl, hok, _, _, _, hR, hP.weaken (fun b _ h => hL b h) (fun f => ?_), fun b hb => ?_⟩⟩
  · rcases f with f | f
    · exact hnl f
    · omega
  · rcases hm b hb with h | h
    · exact .inl h
    · exact .inr (Nat.le_trans b1.size h)

theorem map_erase {α β : Type} (f : α → β) (l : List α) (i : Nat) : (l.eraseIdx i).map f = (l.map f).eraseIdx i := by
  rw [List.eraseIdx_eq_take_drop_succ, List.eraseIdx_eq_take_drop_succ, List.map_append, List.map_take, List.map_drop]

/-- the place of a snap that must be there -/
def RetOld (l : List SnapE) (nm : ByteArray) (e : Ending) : Prop := ∃ (q : Nat) (e' : Int), e = .returned (.tuple #[.int .i64 q, .int .i64 e']) ∧
  ((e' ≠ 0 ∧ ¬ (IsName nm ∧ ∃ s ∈ l, s.nm = nm.data.toList)) ∨ (e' = 0 ∧ (IsName nm ∧ ∃ s ∈ l, s.nm = nm.data.toList) ∧ ∃ h : q < l.length, l[q].nm = nm.data.toList))

set_option maxHeartbeats 1000000 in
set_option maxRecDepth 100000 in
theorem oldSnap_any (base : Nat) (L : Nat → Prop) (yb : Nat) (v : SetV) (x : SetE) (ms : List SnapM) (nm : ByteArray) (w : World) (hP : SetP base L w yb v x ms) (hS : Shape x) (hnm : nm.size ≤ maxLen) :
    Calls Tryz.prog 150 #[.pointer (some ⟨yb, 0, none⟩), .string nm] w fun e w' => RetOld x.snaps nm e ∧ Below w.heap.size w w' := by
  obtain ⟨Q, hSn⟩ := hP.snapsAt
  have hsn : v.sn ≤ 3 := by rw [← hSn.1]; exact hS.fewS
  have ho := hS.orderS
  have y2 := hP.box.cell 2
  simp at y2
  replace hP := hid hP
  replace ho := hid ho
  replace hS := hid hS
  replace hSn := hid hSn
  go_enter Tryz.func150, Tryz.ntmps150
  go_wp2_with fail
  refine (name_any nm w hnm).mono ?_
  rintro e w1 ⟨⟨t, rfl, ht⟩, rfl⟩
  have hN := hid ht
  cases t
  · have hno : Hid (¬ IsName nm) := hid (fun f => Bool.false_ne_true (ht.2 f))
    clear ht hN
    go_wp2_with fail
    go_ret2
    exact ⟨⟨0, 1, rfl, .inl ⟨by omega, fun f => hno.out f.1⟩⟩, Below.refl _ _⟩
  · have hyes : Hid (IsName nm) := hid (ht.1 rfl)
    clear ht hN
    go_wp2_with fail
    refine (findS_any Q v.sa v.sn v.sc x.snaps nm w1 (by omega) hSn.out ho.out).mono ?_
    rintro e w2 ⟨⟨p, b, rfl, hF⟩, b1⟩
    have hb := found_some ho.out hF
    cases b
    · have hno : Hid (¬ ∃ s ∈ x.snaps, s.nm = nm.data.toList) := hid (fun f => Bool.false_ne_true (hb.2 f))
      clear hb hF
      go_wp2_with fail
      go_ret2
      exact ⟨⟨0, 5, rfl, .inl ⟨by omega, fun f => hno.out f.2⟩⟩, b1⟩
    · have hth := hid (hb.1 rfl)
      have hat := hid (found_at hF)
      clear hb hF
      go_wp2_with fail
      go_ret2
      exact ⟨⟨p, 0, rfl, .inr ⟨rfl, ⟨hyes.out, hth.out⟩, hat.out⟩⟩, b1⟩

set_option maxHeartbeats 1000000 in
set_option maxRecDepth 100000 in
theorem forget_any (base : Nat) (L : Nat → Prop) (yb : Nat) (v : SetV) (x : SetE) (ms : List SnapM) (nm : ByteArray) (w : World) (hP : SetP base L w yb v x ms) (hS : Shape x) (hnm : nm.size ≤ maxLen) :
    Calls Tryz.prog 119 #[.pointer (some ⟨yb, 0, none⟩), .string nm] w fun e w' =>
      RetDo base L w yb v (IsName nm ∧ ∃ s ∈ x.snaps, s.nm = nm.data.toList) (fun y => ∃ q, ∃ h : q < x.snaps.length, x.snaps[q].nm = nm.data.toList ∧ y = { x with snaps := x.snaps.eraseIdx q }) e w' := by
  have hyl := hP.box.lt
  have hnl := hid hP.nl
  replace hP := hid hP
  replace hS := hid hS
  go_enter Tryz.func119, Tryz.ntmps119
  go_wp2_with fail
  refine (oldSnap_any base L yb v x ms nm w hP.out hS.out hnm).mono ?_
  rintro e w1 ⟨⟨q, e', rfl, hcase⟩, b1⟩
  replace hP := hid (hP.out.below b1)
  rcases hcase with ⟨he, hno⟩ | ⟨rfl, hyes, hq, hqn⟩
  · have he' : (e' == 0) = false := by simp [he]
    replace hno := hid hno
    go_wp2_with fail
    go_ret
    exact ⟨Only.of_below b1, .inl ⟨e', rfl, he, hno.out⟩⟩
  · replace hyes := hid hyes
    replace hqn := hid hqn
    have hml : ms.length = v.sn := by have := hP.out.new.snaps.1; rw [snapCells_len] at this; omega
    have hqs : q < v.sn := by rw [← hml, ← List.length_map (f := SnapM.e), hP.out.new.eq]; exact hq
    have hsn3 : v.sn ≤ 3 := by rw [← hml, ← List.length_map (f := SnapM.e), hP.out.new.eq]; exact hS.out.fewS
    have y2 := hP.out.box.cell 2
    simp at y2
    go_wp2_with fail
    refine (deleteS_own v.sa v.sn v.sc q base (snapCells ms) w1 hqs hP.out.new.snaps (snapCells_one _)).mono ?_
    rintro e w2 ⟨rfl, hr, on⟩
    rw [snapCells_erase] at hr
    obtain ⟨hP', on', hm'⟩ := hP.out.snaps (sa := v.sa) (sn := v.sn - 1) (sc := v.sc) (ms' := ms.eraseIdx q) (l := x.snaps.eraseIdx q) on hr (by rw [map_erase, hP.out.new.eq]) (fun m hm => .inl ((List.eraseIdx_sublist _ _).subset hm)) (fun b hb => .inl ((own_len v.sa v.sn v.sc (v.sn - 1) v.sc).trans hb))
    have z1 := (on.cells hP.out.box (fun e => hP.out.ny (.inr e))).cell 2
    have z2 := (on.cells hP.out.box (fun e => hP.out.ny (.inr e))).frozen 2
    simp at z1
    have J := hid (retDo_of (L := L) (ok := IsName nm ∧ ∃ s ∈ x.snaps, s.nm = nm.data.toList) (R := fun y => ∃ q, ∃ h : q < x.snaps.length, x.snaps[q].nm = nm.data.toList ∧ y = { x with snaps := x.snaps.eraseIdx q }) b1 hyl hnl.out hyes.out ⟨q, hq, hqn.out, rfl⟩ hP' (fun b hb => by
      rcases hb with h | h
      · exact .inl h
      · exact .inr (Nat.le_trans b1.size h)) on' hm')
    clear hP' on' hm' on hr y2
    go_wp2_with fail
    go_ret
    exact J.out

set_option maxHeartbeats 1000000 in
set_option maxRecDepth 100000 in
theorem back_any (base : Nat) (L : Nat → Prop) (yb : Nat) (v : SetV) (x : SetE) (ms : List SnapM) (nm : ByteArray) (w : World) (hP : SetP base L w yb v x ms) (hS : Shape x) (hnm : nm.size ≤ maxLen) (hbw : base ≤ w.heap.size) :
    Calls Tryz.prog 120 #[.pointer (some ⟨yb, 0, none⟩), .string nm] w fun e w' =>
      RetDo base L w yb v (IsName nm ∧ ∃ s ∈ x.snaps, s.nm = nm.data.toList) (fun y => ∃ q, ∃ h : q < x.snaps.length, x.snaps[q].nm = nm.data.toList ∧ y = { x with files := x.snaps[q].files }) e w' := by
  have hyl := hP.box.lt
  have hnl := hid hP.nl
  replace hP := hid hP
  replace hS := hid hS
  go_enter Tryz.func120, Tryz.ntmps120
  go_wp2_with fail
  refine (oldSnap_any base L yb v x ms nm w hP.out hS.out hnm).mono ?_
  rintro e w1 ⟨⟨q, e', rfl, hcase⟩, b1⟩
  replace hP := hid (hP.out.below b1)
  rcases hcase with ⟨he, hno⟩ | ⟨rfl, hyes, hq, hqn⟩
  · have he' : (e' == 0) = false := by simp [he]
    replace hno := hid hno
    go_wp2_with fail
    go_ret
    exact ⟨Only.of_below b1, .inl ⟨e', rfl, he, hno.out⟩⟩
  · replace hyes := hid hyes
    have hml : ms.length = v.sn := by have := hP.out.new.snaps.1; rw [snapCells_len] at this; omega
    have hql : q < ms.length := by rw [← List.length_map (f := SnapM.e), hP.out.new.eq]; exact hq
    have hqs : q < v.sn := by omega
    have hsn3 : v.sn ≤ 3 := by rw [← hml, ← List.length_map (f := SnapM.e), hP.out.new.eq]; exact hS.out.fewS
    have hqe : x.snaps[q] = ms[q].e := by simp only [← hP.out.new.eq, List.getElem_map]
    have y2 := hP.out.box.cell 2
    simp at y2
    obtain ⟨sb, hsb⟩ : ∃ sb, v.sa = some ⟨sb, 0, none⟩ := by
      rcases hP.out.new.snaps.2 with ⟨h0, h1⟩ | ⟨g, cap, cur, h0, _⟩
      · omega
      · simp only [Value.slice.injEq] at h0; exact ⟨g, h0.1⟩
    have hrow := hP.out.new.snaps
    rw [hsb] at hrow y2
    have c1 : w1.cell? ⟨sb, q * 2 + 1, none⟩ = some (.slice ms[q].fa ms[q].fn ms[q].fc) := (hrow.cellAt (q * 2 + 1) (by omega)).trans (flat_get SnapM.cells_len ms q 1 hql (by omega))
    have hAt := hP.out.new.lists ms[q] (List.getElem_mem hql)
    have hg6 : ms[q].e.files.length ≤ 6 := (hS.out.filesS ms[q].e (by rw [← hqe]; exact List.getElem_mem hq)).1
    rw [hqe] at hqn
    have hfl := hAt.files.1
    have hgok := hid hAt.files.2.1
    have hgs := hid hAt.files.srcAt
    have hR : Hid (∃ k, ∃ h : k < x.snaps.length, x.snaps[k].nm = nm.data.toList ∧ ({ x with files := ms[q].e.files } : SetE) = { x with files := x.snaps[k].files }) := hid ⟨q, hq, by rw [hqe]; exact hqn, by rw [hqe]⟩
    clear hrow hAt hqn hqe
    generalize ms[q] = m at *
    have hgn : m.fn ≤ 6 := by omega
    go_wp2_with fail
    refine (cloneE_any m.fa m.fn m.fc (entCells m.e.files) w1 (by omega) (by rw [entCells_len, hfl]) (entCells_one _) (hgs.out.src (Nat.le_refl _))).mono ?_
    rintro e w2 ⟨b2, a', c', rfl, hc, hr⟩
    obtain ⟨hP', on', hm'⟩ := hP.out.files (fa := a') (fn := m.fn) (fc := c') (l := m.e.files) (Only.of_below b2) (ownsRow_base (Nat.le_trans hbw b1.size) hr) hgok.out (fun b hb => .inr (hr.lt b hb).1)
    have z1 := (hP.out.box.below b2).cell 1
    have z2 := (hP.out.box.below b2).frozen 1
    simp at z1
    have J := hid (retDo_of (L := L) (ok := IsName nm ∧ ∃ s ∈ x.snaps, s.nm = nm.data.toList) (R := fun y => ∃ q, ∃ h : q < x.snaps.length, x.snaps[q].nm = nm.data.toList ∧ y = { x with files := x.snaps[q].files }) b1 hyl hnl.out hyes.out hR.out hP' (fun b hb => .inl hb) on' hm')
    clear hP' on' hm' hr y2 c1
    go_wp2_with fail
    go_ret
    exact J.out
end Go.Proofs.YtnmcgmpmcliinaaGreat

namespace Go.Proofs.YtnmcgmpmcliinaaGreat

theorem count_snap_insert {l : List SnapE} (p : Nat) (x : SnapE) (r : Int) : (rootsS (l.take p ++ x :: l.drop p)).count r = (rootsS l).count r + (rootsE x.files).count r := by
  have e : rootsS l = rootsS (l.take p) ++ rootsS (l.drop p) := by rw [← rootsS_append, List.take_append_drop]
  rw [e, rootsS_append]
  show (rootsS (l.take p) ++ (rootsE x.files ++ rootsS (l.drop p))).count r = _
  simp only [List.count_append]
  omega
theorem count_snap_erase {l : List SnapE} {p : Nat} (hp : p < l.length) (r : Int) : (rootsS (l.eraseIdx p)).count r + (rootsE (l[p]).files).count r = (rootsS l).count r := by
  have e : l = l.take p ++ l[p] :: l.drop (p + 1) := by rw [List.getElem_cons_drop, List.take_append_drop]
  have e2 : rootsS l = rootsS (l.take p) ++ (rootsE l[p].files ++ rootsS (l.drop (p + 1))) := by
    conv => lhs; rw [e]
    rw [rootsS_append]; rfl
  rw [List.eraseIdx_eq_take_drop_succ, rootsS_append, e2]
  simp only [List.count_append]
  omega
theorem mem_insert {α : Type} {l : List α} {p : Nat} {x z : α} : z ∈ l.take p ++ x :: l.drop p ↔ z = x ∨ z ∈ l := by
  have : z ∈ l ↔ z ∈ l.take p ++ l.drop p := by rw [List.take_append_drop]
  rw [this, List.mem_append, List.mem_append, List.mem_cons]
  constructor
  · rintro (h | h | h)
    · exact .inr (.inl h)
    · exact .inl h
    · exact .inr (.inr h)
  · rintro (h | h | h)
    · exact .inr (.inl h)
    · exact .inl h
    · exact .inr (.inr h)
theorem mem_set_or {α : Type} {l : List α} {p : Nat} {x z : α} (h : z ∈ l.set p x) : z = x ∨ z ∈ l := (List.mem_or_eq_of_mem_set h).symm
theorem length_insert {α : Type} (l : List α) (p : Nat) (x : α) : (l.take p ++ x :: l.drop p).length = l.length + 1 := by
  have e : l.length = (l.take p ++ l.drop p).length := by rw [List.take_append_drop]
  rw [e]; simp; omega
theorem fell_none {n : Nat} {B : Nat → Blk} (h : Right n B) : Fell n B B [] := fell_nil h.one

/-- a file that is there is turned -/
theorem after_write {n : Nat} {key a z : Int} {B C D : Nat → Blk} {x : SetE} {p : Nat} (hx : SetOk n B key x) (hh : HeldR n B (rootsX x)) (hp : p < x.files.length) (hg : Grow n B C [a]) (hf : FileOk n C key a z) (hD : Right n D) (hF : Fell n C D [(x.files[p]).root]) :
    After n key B D x { x with files := x.files.set p ⟨(x.files[p]).name, a, z⟩ } ∧ fileL key (leafAt D 3 a) = fileL key (leafAt C 3 a) := by
  have hs := hx.shape
  have hmem : x.files[p] ∈ x.files := List.getElem_mem hp
  obtain ⟨h1, h2⟩ := after_of (y := { x with files := x.files.set p ⟨(x.files[p]).name, a, z⟩ }) hx hh hg hD hF (fun r hr => by
      have := count_set hp ⟨(x.files[p]).name, a, z⟩ r
      unfold rootsX
      simp only [List.count_append]
      show _ + _ + [(x.files[p]).root].count r = _ + _ + [a].count r
      have e : [(Ent.mk (x.files[p]).name a z).root].count r = [a].count r := rfl
      rw [e] at this
      omega)
    ⟨hs.name, by simpa using hs.few, fun e he => by
      rcases mem_set_or he with rfl | h
      · exact hs.names x.files[p] hmem
      · exact hs.names e h, ordered_set hs.order hp rfl, hs.fewS, hs.namesS, hs.orderS, hs.filesS⟩ (fun e he => by
      rcases List.mem_append.1 he with h | h
      · rcases mem_set_or h with rfl | h
        · exact hf
        · exact grow_files hx hg e (List.mem_append_left _ h)
      · exact grow_files hx hg e (List.mem_append_right _ h))
  exact ⟨h1, h2 ⟨(x.files[p]).name, a, z⟩ (List.mem_append_left _ (List.mem_set hp _))⟩
/-- a file that is new -/
theorem after_new {n : Nat} {key a z : Int} {B C : Nat → Blk} {x : SetE} {p : Nat} {nm : ByteArray} (hx : SetOk n B key x) (hh : HeldR n B (rootsX x)) (h6 : x.files.length < 6) (hn : IsName nm) (h1 : ∀ e ∈ x.files.take p, e.nm < nm.data.toList) (h2 : ∀ e ∈ x.files.drop p, nm.data.toList < e.nm) (hg : Grow n B C [a]) (hf : FileOk n C key a z) :
    After n key B C x { x with files := x.files.take p ++ ⟨nm, a, z⟩ :: x.files.drop p } := by
  have hs := hx.shape
  refine (after_of (y := { x with files := x.files.take p ++ ⟨nm, a, z⟩ :: x.files.drop p }) hx hh hg hg.right (fell_none hg.right) (fun r hr => by
      have := count_insert (l := x.files) p ⟨nm, a, z⟩ r
      have e : [(Ent.mk nm a z).root].count r = [a].count r := rfl
      rw [e] at this
      unfold rootsX
      simp only [List.count_append, List.count_nil]
      omega)
    ⟨hs.name, by show (_ : Nat) ≤ 6; rw [length_insert]; omega, fun e he => by
      rcases mem_insert.1 he with rfl | h
      · exact hn
      · exact hs.names e h, ordered_insert (f := Ent.nm) hs.order h1 h2, hs.fewS, hs.namesS, hs.orderS, hs.filesS⟩ (fun e he => by
      rcases List.mem_append.1 he with h | h
      · rcases mem_insert.1 h with rfl | h
        · exact hf
        · exact grow_files hx hg e (List.mem_append_left _ h)
      · exact grow_files hx hg e (List.mem_append_right _ h))).1
/-- a file that is let go -/
theorem after_remove {n : Nat} {key : Int} {B D : Nat → Blk} {x : SetE} {p : Nat} (hx : SetOk n B key x) (hh : HeldR n B (rootsX x)) (hp : p < x.files.length) (hD : Right n D) (hF : Fell n B D [(x.files[p]).root]) : After n key B D x { x with files := x.files.eraseIdx p } := by
  have hs := hx.shape
  refine (after_of (y := { x with files := x.files.eraseIdx p }) hx hh (grow_nil hx.right) hD hF (fun r hr => by
      have := count_erase hp r
      unfold rootsX
      simp only [List.count_append, List.count_nil]
      omega)
    ⟨hs.name, Nat.le_trans (List.eraseIdx_sublist _ _).length_le hs.few, fun e he => hs.names e ((List.eraseIdx_sublist _ _).subset he), ordered_erase hs.order p, hs.fewS, hs.namesS, hs.orderS, hs.filesS⟩ (fun e he => by
      rcases List.mem_append.1 he with h | h
      · exact hx.ents e (List.mem_append_left _ ((List.eraseIdx_sublist _ _).subset h))
      · exact hx.ents e (List.mem_append_right _ h))).1
/-- another name -/
theorem after_rename {n : Nat} {key : Int} {B : Nat → Blk} {x : SetE} {p q : Nat} {nm : ByteArray} (hx : SetOk n B key x) (hh : HeldR n B (rootsX x)) (hp : p < x.files.length) (hn : IsName nm) (h1 : ∀ e ∈ (x.files.eraseIdx p).take q, e.nm < nm.data.toList) (h2 : ∀ e ∈ (x.files.eraseIdx p).drop q, nm.data.toList < e.nm) :
    After n key B B x { x with files := (x.files.eraseIdx p).take q ++ ⟨nm, (x.files[p]).root, (x.files[p]).size⟩ :: (x.files.eraseIdx p).drop q } := by
  have hs := hx.shape
  have hmem : x.files[p] ∈ x.files := List.getElem_mem hp
  refine (after_of (y := { x with files := (x.files.eraseIdx p).take q ++ ⟨nm, (x.files[p]).root, (x.files[p]).size⟩ :: (x.files.eraseIdx p).drop q }) hx hh (grow_nil hx.right) hx.right (fell_none hx.right) (fun r hr => by
      have := count_erase hp r
      have h3 := count_insert (l := x.files.eraseIdx p) q ⟨nm, (x.files[p]).root, (x.files[p]).size⟩ r
      have e : [(Ent.mk nm (x.files[p]).root (x.files[p]).size).root].count r = [(x.files[p]).root].count r := rfl
      rw [e] at h3
      unfold rootsX
      simp only [List.count_append, List.count_nil]
      omega)
    ⟨hs.name, by show (_ : Nat) ≤ 6; rw [length_insert, List.length_eraseIdx, if_pos hp]; have := hs.few; omega, fun e he => by
      rcases mem_insert.1 he with rfl | h
      · exact hn
      · exact hs.names e ((List.eraseIdx_sublist _ _).subset h), ordered_insert (f := Ent.nm) (ordered_erase hs.order p) h1 h2, hs.fewS, hs.namesS, hs.orderS, hs.filesS⟩ (fun e he => by
      rcases List.mem_append.1 he with h | h
      · rcases mem_insert.1 h with rfl | h
        · exact hx.ents x.files[p] (List.mem_append_left _ hmem)
        · exact hx.ents e (List.mem_append_left _ ((List.eraseIdx_sublist _ _).subset h))
      · exact hx.ents e (List.mem_append_right _ h))).1
/-- a snap -/
theorem after_snapshot {n : Nat} {key : Int} {B C : Nat → Blk} {x : SetE} {q : Nat} {nm : ByteArray} (hx : SetOk n B key x) (hh : HeldR n B (rootsX x)) (h3 : x.snaps.length < 3) (hn : IsName nm) (h1 : ∀ e ∈ x.snaps.take q, e.nm < nm.data.toList) (h2 : ∀ e ∈ x.snaps.drop q, nm.data.toList < e.nm) (hg : Grow n B C (rootsE x.files)) :
    After n key B C x { x with snaps := x.snaps.take q ++ ⟨nm, x.files⟩ :: x.snaps.drop q } := by
  have hs := hx.shape
  refine (after_of (y := { x with snaps := x.snaps.take q ++ ⟨nm, x.files⟩ :: x.snaps.drop q }) hx hh hg hg.right (fell_none hg.right) (fun r hr => by
      have := count_snap_insert (l := x.snaps) q ⟨nm, x.files⟩ r
      have e : (rootsE (SnapE.mk nm x.files).files).count r = (rootsE x.files).count r := rfl
      rw [e] at this
      unfold rootsX
      simp only [List.count_append, List.count_nil]
      omega)
    ⟨hs.name, hs.few, hs.names, hs.order, by show (_ : Nat) ≤ 3; rw [length_insert]; omega, fun s hsm => by
      rcases mem_insert.1 hsm with rfl | h
      · exact hn
      · exact hs.namesS s h, ordered_insert (f := SnapE.nm) hs.orderS h1 h2, fun s hsm => by
      rcases mem_insert.1 hsm with rfl | h
      · exact ⟨hs.few, hs.names, hs.order⟩
      · exact hs.filesS s h⟩ (fun e he => by
      rcases List.mem_append.1 he with h | h
      · exact grow_files hx hg e (List.mem_append_left _ h)
      · obtain ⟨s, hsm, h⟩ := List.mem_flatMap.1 h
        rcases mem_insert.1 hsm with rfl | hsm
        · exact grow_files hx hg e (List.mem_append_left _ h)
        · exact grow_files hx hg e (List.mem_append_right _ (List.mem_flatMap.2 ⟨s, hsm, h⟩)))).1
/-- a snap that is let go -/
theorem after_forget {n : Nat} {key : Int} {B D : Nat → Blk} {x : SetE} {q : Nat} (hx : SetOk n B key x) (hh : HeldR n B (rootsX x)) (hq : q < x.snaps.length) (hD : Right n D) (hF : Fell n B D (rootsE (x.snaps[q]).files)) : After n key B D x { x with snaps := x.snaps.eraseIdx q } := by
  have hs := hx.shape
  have hsub := fun s (h : s ∈ x.snaps.eraseIdx q) => (List.eraseIdx_sublist x.snaps q).subset h
  refine (after_of (y := { x with snaps := x.snaps.eraseIdx q }) hx hh (grow_nil hx.right) hD hF (fun r hr => by
      have := count_snap_erase hq r
      unfold rootsX
      simp only [List.count_append, List.count_nil]
      omega)
    ⟨hs.name, hs.few, hs.names, hs.order, Nat.le_trans (List.eraseIdx_sublist _ _).length_le hs.fewS, fun s h => hs.namesS s (hsub s h), ordered_erase hs.orderS q, fun s h => hs.filesS s (hsub s h)⟩ (fun e he => by
      rcases List.mem_append.1 he with h | h
      · exact hx.ents e (List.mem_append_left _ h)
      · obtain ⟨s, hsm, h⟩ := List.mem_flatMap.1 h
        exact hx.ents e (List.mem_append_right _ (List.mem_flatMap.2 ⟨s, hsub s hsm, h⟩)))).1
/-- back to a snap -/
theorem after_back {n : Nat} {key : Int} {B C D : Nat → Blk} {x : SetE} {q : Nat} (hx : SetOk n B key x) (hh : HeldR n B (rootsX x)) (hq : q < x.snaps.length) (hg : Grow n B C (rootsE (x.snaps[q]).files)) (hD : Right n D) (hF : Fell n C D (rootsE x.files)) : After n key B D x { x with files := (x.snaps[q]).files } := by
  have hs := hx.shape
  have hmem : x.snaps[q] ∈ x.snaps := List.getElem_mem hq
  refine (after_of (y := { x with files := (x.snaps[q]).files }) hx hh hg hD hF (fun r hr => by
      unfold rootsX
      simp only [List.count_append]
      omega)
    ⟨hs.name, (hs.filesS _ hmem).1, (hs.filesS _ hmem).2.1, (hs.filesS _ hmem).2.2, hs.fewS, hs.namesS, hs.orderS, hs.filesS⟩ (fun e he => by
      rcases List.mem_append.1 he with h | h
      · exact grow_files hx hg e (List.mem_append_right _ (List.mem_flatMap.2 ⟨_, hmem, h⟩))
      · exact grow_files hx hg e (List.mem_append_right _ h))).1
/-- a clone: right, and held besides -/
theorem clone_ok {n : Nat} {key : Int} {B C : Nat → Blk} {x : SetE} {q : Nat} {nm : ByteArray} (hx : SetOk n B key x) (hq : q < x.snaps.length) (hn : IsName nm) (hg : Grow n B C (rootsE (x.snaps[q]).files)) (hh : HeldR n B (rootsX x)) :
    SetOk n C key ⟨nm, (x.snaps[q]).files, []⟩ ∧ HeldR n C (rootsX ⟨nm, (x.snaps[q]).files, []⟩) ∧ SetOk n C key x := by
  have hs := hx.shape
  have hmem : x.snaps[q] ∈ x.snaps := List.getElem_mem hq
  refine ⟨setOk_of hx.kb hg.right ⟨hn, (hs.filesS _ hmem).1, (hs.filesS _ hmem).2.1, (hs.filesS _ hmem).2.2, Nat.zero_le _, by simp, List.Pairwise.nil, by simp⟩ (fun e he => ?_), fun k hk => ?_, setOk_of hx.kb hg.right hs (grow_files hx hg)⟩
  · rcases List.mem_append.1 he with h | h
    · exact grow_files hx hg e (List.mem_append_right _ (List.mem_flatMap.2 ⟨_, hmem, h⟩))
    · simp at h
  · rw [hg.out k hk]
    have := hh k hk
    have e : rootsX ⟨nm, (x.snaps[q]).files, []⟩ = rootsE (x.snaps[q]).files := by simp [rootsX, rootsS]
    rw [e]
    omega
end Go.Proofs.YtnmcgmpmcliinaaGreat
