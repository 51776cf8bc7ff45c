/-
  SndX, SndY, SndZ in one text. Nothing here is trusted.
-/
import Derived.Test.YtnmcgmpmcliinaaGreatPart35
import Derived.Test.YtnmcgmpmcliinaaGreatPart42
import Derived.Test.YtnmcgmpmcliinaaGreatPart43
set_option linter.unusedVariables false
namespace Go.Proofs.YtnmcgmpmcliinaaGreat
open Go.RowKit

/-- files by their names: size and bytes -/
abbrev Sig := List UInt8 → Option (Int × List Int)
def wasOf (σ : Sig) (nm : List UInt8) : Int × List Int := (σ nm).getD (0, zeros 256)
def overS (p : Int × List Int) (a : AskE) : List Int := overL (p.2.take p.1.toNat) a.pos.toNat a.bytes
def absNew (σ : Sig) (a : AskE) : Option (Int × List Int) :=
  if a.kind = 5 then none else if a.kind = 4 then some (((((wasOf σ a.file.data.toList).2).take a.num.toNat).length : Int), padTo (((wasOf σ a.file.data.toList).2).take a.num.toNat)) else some (((overS (wasOf σ a.file.data.toList) a).length : Int), padTo (overS (wasOf σ a.file.data.toList) a))
def absStep (σ : Sig) (a : AskE) : Sig := fun nm => if nm = a.file.data.toList then absNew σ a else σ nm
def absRun (σ : Sig) (l : List AskE) : Sig := l.foldl absStep σ
theorem absRun_append (σ : Sig) (l m : List AskE) : absRun σ (l ++ m) = absRun (absRun σ l) m := List.foldl_append
theorem absStep_ne {σ : Sig} {a : AskE} {nm : List UInt8} (h : nm ≠ a.file.data.toList) : absStep σ a nm = σ nm := if_neg h
theorem absStep_eq {σ : Sig} {a : AskE} : absStep σ a a.file.data.toList = absNew σ a := if_pos rfl
/-- the set's files are so -/
def Rel (key : Int) (D : Nat → Blk) (y : SetE) (σ : Sig) : Prop := ∀ nm s W, Fil key D y.files nm s W ↔ σ nm = some (s, W)
theorem Rel.was {key : Int} {D : Nat → Blk} {y : SetE} {σ : Sig} (h : Rel key D y σ) {nm : List UInt8} {s : Int} {W : List Int} (hw : Was key D y.files nm s W) : wasOf σ nm = (s, W) := by
  unfold wasOf
  rcases hw with hw | ⟨hno, rfl, rfl⟩
  · rw [(h nm s W).1 hw]; rfl
  · cases hs : σ nm with
    | none => rfl
    | some p => exact absurd ((h nm p.1 p.2).2 hs).has hno
theorem Rel.has {key : Int} {D : Nat → Blk} {y : SetE} {σ : Sig} (h : Rel key D y σ) {nm : List UInt8} : (∃ f ∈ y.files, f.nm = nm) ↔ σ nm ≠ none := by
  constructor
  · rintro ⟨f, hf, e⟩ hs
    have := (h nm f.size _).1 ⟨f, hf, e, rfl, rfl⟩
    rw [hs] at this
    cases this
  · intro hs
    cases hp : σ nm with
    | none => exact absurd hp hs
    | some p => exact ((h nm p.1 p.2).2 hp).has
theorem Rel.step {n : Nat} {key : Int} {B D D' : Nat → Blk} {x y y' : SetE} {σ : Sig} {a : AskE} (hT : Std n key B x D y) (h : Rel key D y σ) (ha : Is345 a) (hd : Did n D key y a 999510 D' y') : Rel key D' y' (absStep σ a) := by
  have hm := more345 a
  have hT' := hT.step ha hd
  have ho' := hT'.nxt.ok.shape.order
  have fin : ∀ (v : Option (Int × List Int)), Others key D D' y y' a.file.data.toList → (∀ s W, Fil key D' y'.files a.file.data.toList s W ↔ v = some (s, W)) → absNew σ a = v → Rel key D' y' (absStep σ a) := fun v ho hv e nm s W => by
    by_cases hn : nm = a.file.data.toList
    · subst hn
      rw [absStep_eq, e]
      exact hv s W
    · rw [absStep_ne hn]
      exact (ho nm s W hn).symm.trans (h nm s W)
  have one : ∀ {s0 : Int} {W0 : List Int}, Fil key D' y'.files a.file.data.toList s0 W0 → ∀ s W, Fil key D' y'.files a.file.data.toList s W ↔ (some (s0, W0) : Option (Int × List Int)) = some (s, W) := fun h0 s W => by
    constructor
    · intro h1
      obtain ⟨rfl, rfl⟩ := h0.one ho' h1
      rfl
    · intro h1
      cases h1
      exact h0
  rcases ha.1 with hk | hk | hk
  · obtain ⟨_, ho, s, W, hw, hf⟩ := did_write hT.nxt.ok hT.nxt.held ha.2 hT.few (by omega) hd hk
    refine fin _ ho (one hf) ?_
    unfold absNew overS
    rw [if_neg (by omega), if_neg (by omega), h.was hw]
  · obtain ⟨_, ho, s, W, hw, hf⟩ := did_cut hT.nxt.ok hT.nxt.held ha.2 hT.few (by omega) hd hk
    refine fin _ ho (one hf) ?_
    unfold absNew
    rw [if_neg (by omega), if_pos hk, h.was hw]
  · obtain ⟨_, ho, hno⟩ := did_remove hT.nxt.ok hT.nxt.held ha.2 hT.few (by omega) hd hk
    refine fin none ho (fun s W => ⟨fun hf => absurd hf.has hno, fun f => by cases f⟩) ?_
    unfold absNew
    rw [if_pos hk]
theorem steps_rel {n : Nat} {key : Int} {B D : Nat → Blk} {x y : SetE} {σ : Sig} {p : List AskE} (h0 : Rel key B x σ) (hB : Std n key B x B x) (hp : ∀ a ∈ p, Is345 a) (h : Steps n key 999510 B x p D y) : Std n key B x D y ∧ Rel key D y (absRun σ p) := by
  induction h with
  | nil => exact ⟨hB, h0⟩
  | snoc hs hd ih =>
    obtain ⟨h1, h2⟩ := ih (fun a ha => hp a (List.mem_append_left _ ha))
    have ha := hp _ (List.mem_append_right _ (List.mem_singleton.2 rfl))
    refine ⟨h1.step ha hd, ?_⟩
    rw [absRun_append]
    exact h2.step h1 ha hd
/-- the set's own state -/
def sigOf (key : Int) (B : Nat → Blk) (l : List Ent) : Sig := fun nm => (l.find? fun e => decide (e.nm = nm)).map fun e => (e.size, fileL key (leafAt B 3 e.root))
theorem sig_some {key : Int} {B : Nat → Blk} {l : List Ent} (ho : InOrder l) {e : Ent} (he : e ∈ l) : sigOf key B l e.nm = some (e.size, fileL key (leafAt B 3 e.root)) := by
  unfold sigOf
  cases h : l.find? (fun f => decide (f.nm = e.nm)) with
  | none => have := List.find?_eq_none.1 h e he; simp at this
  | some f =>
    have h1 := List.mem_of_find?_eq_some h
    have h2 := List.find?_some h
    rw [ordered_one Ent.nm ho h1 he (by simpa using h2)]
    rfl
theorem rel_sig {key : Int} {B : Nat → Blk} {x : SetE} (ho : InOrder x.files) : Rel key B x (sigOf key B x.files) := fun nm s W => by
  constructor
  · rintro ⟨e, he, rfl, rfl, rfl⟩
    exact sig_some ho he
  · intro h
    unfold sigOf at h
    cases hf : x.files.find? (fun e => decide (e.nm = nm)) with
    | none => rw [hf] at h; cases h
    | some e =>
      rw [hf] at h
      simp only [Option.map_some, Option.some.injEq, Prod.mk.injEq] at h
      have h2 := List.find?_some hf
      exact ⟨e, List.mem_of_find?_eq_some hf, by simpa using h2, h.1, h.2⟩

/-- asks of one file leave the others -/
theorem absRun_ne {nm : List UInt8} : ∀ (l : List AskE) (σ : Sig), (∀ a ∈ l, nm ≠ a.file.data.toList) → absRun σ l nm = σ nm
  | [], _, _ => rfl
  | a :: l, σ, h => (absRun_ne l (absStep σ a) fun b hb => h b (List.mem_cons_of_mem _ hb)).trans (absStep_ne (h a List.mem_cons_self))
theorem absRun_sub {N : List (List UInt8)} : ∀ (l : List AskE) (σ : Sig), (∀ a ∈ l, a.file.data.toList ∈ N) → (∀ m, σ m ≠ none → m ∈ N) → ∀ m, absRun σ l m ≠ none → m ∈ N
  | [], _, _, h2, m, h => h2 m h
  | a :: l, σ, h1, h2, m, h => absRun_sub l (absStep σ a) (fun b hb => h1 b (List.mem_cons_of_mem _ hb)) (fun m hm => by
      by_cases e : m = a.file.data.toList
      · rw [e]; exact h1 a List.mem_cons_self
      · rw [absStep_ne e] at hm; exact h2 m hm) m h
/-- where a row of asks is parted -/
theorem flat_split {α β : Type} {f : α → List β} : ∀ {l : List α} {p r : List β} {a : β}, l.flatMap f = p ++ a :: r → ∃ l1 d l2 q1 q2, l = l1 ++ d :: l2 ∧ f d = q1 ++ a :: q2 ∧ p = l1.flatMap f ++ q1
  | [], p, r, a, h => by simp at h
  | d :: l, p, r, a, h => by
    rw [List.flatMap_cons] at h
    rcases List.append_eq_append_iff.1 h with ⟨c, h1, h2⟩ | ⟨c, h1, h2⟩
    · obtain ⟨l1, d', l2, q1, q2, e1, e2, e3⟩ := flat_split h2
      exact ⟨d :: l1, d', l2, q1, q2, by rw [e1]; rfl, e2, by rw [h1, e3, List.flatMap_cons, List.append_assoc]⟩
    · cases c with
      | nil =>
        rw [List.nil_append] at h2
        rw [List.append_nil] at h1
        obtain ⟨l1, d', l2, q1, q2, e1, e2, e3⟩ := flat_split (p := []) h2.symm
        exact ⟨d :: l1, d', l2, q1, q2, by rw [e1]; rfl, e2, by rw [List.flatMap_cons, ← h1, List.append_assoc, ← e3, List.append_nil]⟩
      | cons b c =>
        rw [List.cons_append] at h2
        cases h2
        exact ⟨[], d, l, p, c, rfl, h1, by simp⟩
theorem asks_file {d : DifE} : ∀ a ∈ asksOf d, a.file = d.name := by
  intro a ha
  unfold asksOf at ha
  split at ha
  · simp at ha; rw [ha]
  · split at ha
    · simp at ha; rcases ha with ha | ha <;> rw [ha]
    · split at ha
      · simp at ha; rw [ha]
      · simp at ha
end Go.Proofs.YtnmcgmpmcliinaaGreat

namespace Go.Proofs.YtnmcgmpmcliinaaGreat
open Go.RowKit

theorem sig_look {key : Int} {B : Nat → Blk} {l : List Ent} (ho : InOrder l) (t : ByteArray) : sigOf key B l t.data.toList = (look l t).map fun e => (e.size, fileL key (leafAt B 3 e.root)) := by
  cases h : look l t with
  | some f =>
    obtain ⟨h1, h2⟩ := look_mem h
    have := sig_some (key := key) (B := B) ho h1
    rw [show f.nm = t.data.toList from by unfold Ent.nm; rw [h2]] at this
    exact this
  | none =>
    unfold sigOf
    rw [List.find?_eq_none.2 (fun x hx => by
      have := look_no h x hx
      have h3 : x.nm ≠ t.data.toList := fun f => this (bytes_eq f)
      simp [h3])]
/-- what was there of that name: a right file, with nothing if it wasn't -/
theorem old_ok {n : Nat} {B : Nat → Blk} {key : Int} {x : SetE} (hx : SetOk n B key x) (t : ByteArray) : FileOk n B key (rootO (look x.files t)) (sizeO (look x.files t)) ∧ wasOf (sigOf key B x.files) t.data.toList = (sizeO (look x.files t), fileL key (leafAt B 3 (rootO (look x.files t)))) := by
  have hs := sig_look (key := key) (B := B) hx.shape.order t
  unfold wasOf
  rw [hs]
  cases h : look x.files t with
  | some f => exact ⟨hx.ents f (List.mem_append_left _ (look_mem h).1), rfl⟩
  | none =>
    have := fileOk_zero (size := 0) hx.right hx.kb (by omega)
    exact ⟨this.1, by show ((0 : Int), zeros 256) = (0, fileL key (leafAt B 3 0)); rw [this.2]⟩
theorem padTo_self {W : List Int} {s : Nat} (hW : W.length = 256) (hs : s ≤ 256) (hz : ∀ k, s ≤ k → W.getD k 0 = 0) : padTo (W.take s) = W := padTo_take hW hs (fun k h1 _ => hz k h1)
theorem getD_out {W : List Int} {k : Nat} (h : W.length ≤ k) : W.getD k 0 = 0 := by
  rw [List.getD_eq_getElem?_getD, List.getElem?_eq_none h]; rfl
theorem behind_all {n : Nat} {B : Nat → Blk} {key root size : Int} (h : FileOk n B key root size) : ∀ k, size.toNat ≤ k → (fileL key (leafAt B 3 root)).getD k 0 = 0 := fun k hk => by
  by_cases h2 : k < 256
  · exact h.behind k (by have := h.sb; omega) h2
  · exact getD_out (by rw [fileL_length]; omega)
def wr0 (nm : ByteArray) : AskE := ⟨3, nE, nm, nE, 0, 0, []⟩
def cutTo' (nm : ByteArray) (z : Int) : AskE := ⟨4, nE, nm, nE, 0, z, []⟩
def wrAt (nm : ByteArray) (Wf : List Int) (r : Nat × Nat) : AskE := ⟨3, nE, nm, nE, (r.1 : Int), 0, (Wf.drop r.1).take (r.2 - r.1)⟩
/-- Write of nothing leaves it, or makes it -/
theorem abs_wr0 {σ : Sig} {nm : ByteArray} {s : Int} {W : List Int} (h : wasOf σ nm.data.toList = (s, W)) (hW : W.length = 256) (hs : 0 ≤ s ∧ s ≤ 256) (hz : ∀ k, s.toNat ≤ k → W.getD k 0 = 0) : absStep σ (wr0 nm) nm.data.toList = some (s, W) := by
  have e : absStep σ (wr0 nm) nm.data.toList = absNew σ (wr0 nm) := absStep_eq
  rw [e]
  unfold absNew overS wr0
  simp only
  rw [h, if_neg (by decide), if_neg (by decide)]
  have e2 : overL (W.take s.toNat) (0 : Int).toNat [] = W.take s.toNat := by unfold overL; rw [if_pos rfl]
  simp only [e2]
  rw [padTo_self hW (by omega) hz, List.length_take, hW]
  congr 2
  omega
theorem abs_cut {σ : Sig} {nm : ByteArray} {s z : Int} {W : List Int} (h : σ nm.data.toList = some (s, W)) (hW : W.length = 256) (hz : 0 ≤ z ∧ z ≤ 256) : absStep σ (cutTo' nm z) nm.data.toList = some (z, padTo (W.take z.toNat)) := by
  have e : absStep σ (cutTo' nm z) nm.data.toList = absNew σ (cutTo' nm z) := absStep_eq
  rw [e]
  have hw : wasOf σ nm.data.toList = (s, W) := by unfold wasOf; rw [h]; rfl
  unfold absNew cutTo'
  simp only
  rw [hw, if_neg (by decide), if_pos trivial]
  simp only [List.length_take, hW]
  congr 2
  omega
theorem abs_wrAt {σ : Sig} {nm : ByteArray} {s : Nat} {W Wf : List Int} {r : Nat × Nat} (h : σ nm.data.toList = some ((s : Int), W)) (hW : W.length = 256) (hs : s ≤ 256) (hf : Wf.length = s) (hr : r.1 < r.2 ∧ r.2 ≤ s) :
    ∃ W', absStep σ (wrAt nm Wf r) nm.data.toList = some ((s : Int), W') ∧ W'.length = 256 ∧ ∀ k, W'.getD k 0 = if r.1 ≤ k ∧ k < r.2 then Wf.getD k 0 else if k < s then W.getD k 0 else 0 := by
  have e : absStep σ (wrAt nm Wf r) nm.data.toList = absNew σ (wrAt nm Wf r) := absStep_eq
  have hw : wasOf σ nm.data.toList = ((s : Int), W) := by unfold wasOf; rw [h]; rfl
  have hbl : ((Wf.drop r.1).take (r.2 - r.1)).length = r.2 - r.1 := by rw [List.length_take, List.length_drop]; omega
  have hbn : (Wf.drop r.1).take (r.2 - r.1) ≠ [] := fun f => by rw [f] at hbl; simp at hbl; omega
  have hl : (overL (W.take s) r.1 ((Wf.drop r.1).take (r.2 - r.1))).length = s := by
    rw [overL_length, if_neg hbn, hbl, List.length_take, hW]
    omega
  refine ⟨padTo (overL (W.take s) r.1 ((Wf.drop r.1).take (r.2 - r.1))), ?_, padTo_length (by omega), fun k => ?_⟩
  · rw [e]
    unfold absNew overS wrAt
    simp only
    rw [hw, if_neg (by decide), if_neg (by decide)]
    simp only [Int.toNat_natCast]
    rw [hl]
  · rw [padTo_getD, overL_getD, hbl]
    by_cases hk : r.1 ≤ k ∧ k < r.2
    · rw [if_pos (by omega), if_pos hk]
      rw [List.getD_eq_getElem?_getD, List.getD_eq_getElem?_getD, List.getElem?_take_of_lt (by omega), List.getElem?_drop, show r.1 + (k - r.1) = k by omega]
    · rw [if_neg (by omega), if_neg hk]
      by_cases hks : k < s
      · rw [if_pos hks, getD_take hks]
      · rw [if_neg hks]
        exact getD_out (by rw [List.length_take]; omega)
theorem abs_runs {nm : ByteArray} {s : Nat} {Wf : List Int} (hs : s ≤ 256) (hf : Wf.length = s) : ∀ (rs : List (Nat × Nat)) (σ : Sig) (W : List Int), (∀ r ∈ rs, r.1 < r.2 ∧ r.2 ≤ s) → σ nm.data.toList = some ((s : Int), W) → W.length = 256 → (∀ k, s ≤ k → W.getD k 0 = 0) →
    ∃ W', absRun σ (rs.map (wrAt nm Wf)) nm.data.toList = some ((s : Int), W') ∧ W'.length = 256 ∧ (∀ k, s ≤ k → W'.getD k 0 = 0) ∧ ∀ k, k < s → W'.getD k 0 = Wf.getD k 0 ∨ (W'.getD k 0 = W.getD k 0 ∧ ∀ r ∈ rs, ¬ (r.1 ≤ k ∧ k < r.2))
  | [], σ, W, _, h, hW, hz => ⟨W, h, hW, hz, fun k _ => .inr ⟨rfl, fun r hr => by simp at hr⟩⟩
  | r :: rs, σ, W, hr, h, hW, hz => by
    obtain ⟨W1, h1, hW1, hg⟩ := abs_wrAt h hW hs hf (hr r List.mem_cons_self)
    obtain ⟨W', h2, hW', hz', hk'⟩ := abs_runs hs hf rs (absStep σ (wrAt nm Wf r)) W1 (fun q hq => hr q (List.mem_cons_of_mem _ hq)) h1 hW1 (fun k hk => by
      have hr0 := hr r List.mem_cons_self
      rw [hg k, if_neg (by omega), if_neg (by omega)])
    refine ⟨W', h2, hW', hz', fun k hk => ?_⟩
    rcases hk' k hk with h3 | ⟨h3, h4⟩
    · exact .inl h3
    · rw [hg k] at h3
      by_cases hc : r.1 ≤ k ∧ k < r.2
      · rw [if_pos hc] at h3
        exact .inl h3
      · rw [if_neg hc, if_pos hk] at h3
        refine .inr ⟨h3, fun q hq => ?_⟩
        rcases List.mem_cons.1 hq with rfl | hq
        · exact hc
        · exact h4 q hq
theorem asks_runs (nm : ByteArray) (Wf : List Int) (rs : List (Nat × Nat)) : (rs.map (difOf nm Wf)).flatMap asksOf = rs.map (wrAt nm Wf) := by
  induction rs with
  | nil => rfl
  | cons r rs ih =>
    rw [List.map_cons, List.flatMap_cons, ih, List.map_cons]
    rfl
/-- all that is asked for one file -/
def asksE (key : Int) (B : Nat → Blk) (old : List Ent) (e : Ent) : List AskE := (turnedL key B old e).flatMap asksOf
theorem asksE_file {key : Int} {B : Nat → Blk} {old : List Ent} {e : Ent} : ∀ a ∈ asksE key B old e, a.file = e.name := by
  intro a ha
  obtain ⟨d, hd, ha⟩ := List.mem_flatMap.1 ha
  rw [asks_file a ha]
  unfold turnedL at hd
  rcases List.mem_append.1 hd with hd | hd
  · unfold sizedL at hd
    split at hd
    · rw [List.mem_singleton.1 hd]
    · simp at hd
  · obtain ⟨r, _, rfl⟩ := List.mem_map.1 hd
    rfl
/-- so it comes to be the other one -/
theorem abs_file {n : Nat} {B : Nat → Blk} {key : Int} {x y : SetE} (hx : SetOk n B key x) (hy : SetOk n B key y) (hb : ∀ i, i < n → Bytes (B i).bytes) {e : Ent} (he : e ∈ y.files) {σ : Sig} (hσ : σ e.nm = sigOf key B x.files e.nm) : absRun σ (asksE key B x.files e) e.nm = some (e.size, fileL key (leafAt B 3 e.root)) := by
  have hfe := hy.ents e (List.mem_append_left _ he)
  have hs := hfe.sb
  obtain ⟨hF0, hw0⟩ := old_ok hx e.name
  obtain ⟨sz, hsz⟩ : ∃ sz : Nat, e.size = (sz : Int) := ⟨e.size.toNat, by omega⟩
  have hwσ : wasOf σ e.name.data.toList = (sizeO (look x.files e.name), fileL key (leafAt B 3 (rootO (look x.files e.name)))) := by
    rw [← hw0]
    unfold wasOf
    rw [show σ e.name.data.toList = sigOf key B x.files e.name.data.toList from hσ]
  have hL0 := fileL_length key (leafAt B 3 (rootO (look x.files e.name)))
  have hb0 := behind_all hF0
  have hsig := sig_look (key := key) (B := B) hx.shape.order e.name
  -- behind what is told of the size
  have h1 : absRun σ ((sizedL x.files e).flatMap asksOf) e.name.data.toList = some (e.size, padTo ((fileL key (leafAt B 3 (rootO (look x.files e.name)))).take e.size.toNat)) := by
    unfold sizedL
    by_cases hc : (look x.files e.name).isNone ∨ sizeO (look x.files e.name) ≠ e.size
    · rw [if_pos hc]
      have e1 : ([⟨2, e.name, e.size, []⟩] : List DifE).flatMap asksOf = [wr0 e.name, cutTo' e.name e.size] := rfl
      rw [e1]
      show absStep (absStep σ (wr0 e.name)) (cutTo' e.name e.size) e.name.data.toList = _
      exact abs_cut (abs_wr0 hwσ hL0 hF0.sb hb0) hL0 hs
    · rw [if_neg hc]
      show σ e.name.data.toList = _
      cases hl : look x.files e.name with
      | none => rw [hl] at hc; simp at hc
      | some f =>
        rw [hl] at hc hb0 hL0
        have hfs : f.size = e.size := by
          by_cases hq : f.size = e.size
          · exact hq
          · exact absurd (.inr hq) hc
        have h3 : σ e.name.data.toList = some (f.size, fileL key (leafAt B 3 f.root)) := by
          rw [show σ e.name.data.toList = sigOf key B x.files e.name.data.toList from hσ, hsig, hl]
          rfl
        simp only [rootO, sizeO] at hb0 hL0 ⊢
        rw [h3, padTo_self hL0 (by omega) (by rw [← hfs]; exact hb0), hfs]
  -- behind the runs
  have hfw : (fileW key B e).length = sz := by have := fileW_len hfe; omega
  have hT : asksE key B x.files e = (sizedL x.files e).flatMap asksOf ++ (runsOf B x.files e).map (wrAt e.name (fileW key B e)) := by
    unfold asksE turnedL
    rw [List.flatMap_append, asks_runs]
  rw [hT, absRun_append]
  have hin : ∀ r ∈ runsOf B x.files e, r.1 < r.2 ∧ r.2 ≤ sz := fun r hr => by
    have := runsL_in r hr
    rw [hsz, Int.toNat_natCast] at this
    exact this
  rw [hsz, Int.toNat_natCast] at h1
  obtain ⟨W', h2, hW', hz', hk'⟩ := abs_runs (nm := e.name) (s := sz) (Wf := fileW key B e) (by omega) hfw (runsOf B x.files e) _ _ hin h1 (padTo_length (by rw [List.length_take, hL0]; omega)) (fun k hk => by
    rw [padTo_getD]
    exact getD_out (by rw [List.length_take]; omega))
  show absRun (absRun σ ((sizedL x.files e).flatMap asksOf)) _ e.name.data.toList = _
  rw [h2, hsz]
  congr 2
  refine list_ext_getD (by rw [hW', fileL_length]) (fun k hk => ?_)
  rw [hW'] at hk
  by_cases hks : k < sz
  · have hWk : (fileW key B e).getD k 0 = (fileL key (leafAt B 3 e.root)).getD k 0 := by
      unfold fileW
      exact getD_take (by omega)
    rcases hk' k hks with h3 | ⟨h3, h4⟩
    · rw [h3, hWk]
    · rw [h3, padTo_getD, getD_take hks]
      refine same_at hb hF0 hfe hk (fun hm => ?_)
      obtain ⟨r, hr, h5, h6⟩ := runs_cover e.size.toNat _ _ rfl _ hm (by omega)
      exact h4 r hr ⟨by omega, by omega⟩
  · rw [hz' k (by omega), behind_all hfe k (by omega)]
end Go.Proofs.YtnmcgmpmcliinaaGreat

namespace Go.Proofs.YtnmcgmpmcliinaaGreat
open Go.RowKit

theorem goneL_kind {a b : List Ent} : ∀ d ∈ goneL a b, ∃ e ∈ a, (look b e.name = none) ∧ d = ⟨1, e.name, 0, []⟩ := by
  intro d hd
  unfold goneL at hd
  obtain ⟨e, he, rfl⟩ := List.mem_map.1 hd
  obtain ⟨h1, h2⟩ := List.mem_filter.1 he
  exact ⟨e, h1, by simpa using h2, rfl⟩
/-- what Diff says of one file -/
def DOk (e : Ent) (d : DifE) : Prop := d.name = e.name ∧ Bytes d.bytes ∧ ((d.kind = 2 ∧ d.num = e.size) ∨ (d.kind = 3 ∧ 0 ≤ d.num ∧ d.num + (d.bytes.length : Int) ≤ 256))
theorem turned_ok {n : Nat} {B : Nat → Blk} {key : Int} {old : List Ent} {e : Ent} (he : FileOk n B key e.root e.size) : ∀ d ∈ turnedL key B old e, DOk e d := by
  intro d hd
  unfold turnedL at hd
  rcases List.mem_append.1 hd with hd | hd
  · unfold sizedL at hd
    split at hd
    · rw [List.mem_singleton.1 hd]
      exact ⟨rfl, fun x hx => by simp at hx, .inl ⟨rfl, rfl⟩⟩
    · simp at hd
  · obtain ⟨r, hr, rfl⟩ := List.mem_map.1 hd
    have h1 := runsL_in r hr
    have h2 := he.sb
    refine ⟨rfl, fun x hx => fileL_bytes _ _ x (List.mem_of_mem_take (List.mem_of_mem_drop (List.mem_of_mem_take hx))), .inr ⟨rfl, by show (0 : Int) ≤ (r.1 : Int); omega, ?_⟩⟩
    show (r.1 : Int) + ((((fileW key B e).drop r.1).take (r.2 - r.1)).length : Int) ≤ 256
    rw [List.length_take]
    omega
theorem diff_mem {n : Nat} {B : Nat → Blk} {key : Int} {x y : SetE} (hy : SetOk n B key y) : ∀ d ∈ diffL key B x.files y.files, (d.kind = 1 ∨ d.kind = 2 ∨ d.kind = 3) ∧ Bytes d.bytes := by
  intro d hd
  rcases List.mem_append.1 hd with hd | hd
  · obtain ⟨e, _, _, rfl⟩ := goneL_kind d hd
    exact ⟨.inl rfl, fun x hx => by simp at hx⟩
  · obtain ⟨e, he, hd⟩ := List.mem_flatMap.1 hd
    obtain ⟨_, h2, h3⟩ := turned_ok (hy.ents e (List.mem_append_left _ he)) d hd
    exact ⟨by rcases h3 with h3 | h3 <;> omega, h2⟩
/-- behind what is gone nothing is left that the other one hasn't -/
theorem gone_sub {n : Nat} {B : Nat → Blk} {key : Int} {x y : SetE} (hx : SetOk n B key x) : ∀ m, absRun (sigOf key B x.files) ((goneL x.files y.files).flatMap asksOf) m ≠ none → m ∈ y.files.map Ent.nm ∧ absRun (sigOf key B x.files) ((goneL x.files y.files).flatMap asksOf) m = sigOf key B x.files m := by
  have main : ∀ (gl : List Ent) (σ : Sig) (m : List UInt8), absRun σ ((gl.map fun e => (⟨1, e.name, 0, []⟩ : DifE)).flatMap asksOf) m = if m ∈ gl.map Ent.nm then none else σ m := by
    intro gl
    induction gl with
    | nil => intro σ m; simp [absRun]
    | cons e gl ih =>
      intro σ m
      have e1 : ((e :: gl).map fun e => (⟨1, e.name, 0, []⟩ : DifE)).flatMap asksOf = (⟨5, nE, e.name, nE, 0, 0, []⟩ : AskE) :: (gl.map fun e => (⟨1, e.name, 0, []⟩ : DifE)).flatMap asksOf := rfl
      rw [e1]
      show absRun (absStep σ ⟨5, nE, e.name, nE, 0, 0, []⟩) _ m = _
      rw [ih]
      by_cases h1 : m ∈ gl.map Ent.nm
      · rw [if_pos h1, if_pos (by rw [List.map_cons]; exact List.mem_cons_of_mem _ h1)]
      · rw [if_neg h1]
        by_cases h2 : m = e.name.data.toList
        · rw [if_pos (by rw [List.map_cons]; exact List.mem_cons.2 (.inl h2)), h2, absStep_eq]
          rfl
        · rw [absStep_ne h2, if_neg (by
            rw [List.map_cons]
            intro f
            rcases List.mem_cons.1 f with f | f
            · exact h2 f
            · exact h1 f)]
  intro m hm
  unfold goneL at hm ⊢
  rw [main] at hm ⊢
  by_cases h1 : m ∈ (x.files.filter fun e => (look y.files e.name).isNone).map Ent.nm
  · rw [if_pos h1] at hm; exact absurd rfl hm
  · rw [if_neg h1] at hm ⊢
    refine ⟨?_, rfl⟩
    unfold sigOf at hm
    cases hf : x.files.find? (fun e => decide (e.nm = m)) with
    | none => rw [hf] at hm; exact absurd rfl hm
    | some e =>
      have he := List.mem_of_find?_eq_some hf
      have hn : e.nm = m := by have := List.find?_some hf; simpa using this
      cases hl : look y.files e.name with
      | none => exact absurd (List.mem_map.2 ⟨e, List.mem_filter.2 ⟨he, by rw [hl]; rfl⟩, hn⟩) h1
      | some f =>
        obtain ⟨h2, h3⟩ := look_mem hl
        exact List.mem_map.2 ⟨f, h2, by rw [← hn]; unfold Ent.nm; rw [h3]⟩
theorem gone_keeps {n : Nat} {B : Nat → Blk} {key : Int} {x y : SetE} (hx : SetOk n B key x) {e : Ent} (he : e ∈ y.files) (ho : InOrder y.files) : absRun (sigOf key B x.files) ((goneL x.files y.files).flatMap asksOf) e.nm = sigOf key B x.files e.nm := by
  refine absRun_ne _ _ (fun a ha f => ?_)
  obtain ⟨d, hd, ha⟩ := List.mem_flatMap.1 ha
  obtain ⟨e2, _, hno, rfl⟩ := goneL_kind d hd
  rw [asks_file a ha] at f
  exact look_no hno e he (bytes_eq f)
/-- as many files as there may be -/
theorem few_files {y z : SetE} (hy : Shape y) (hz : InOrder z.files) (hsub : ∀ f ∈ z.files, f.nm ∈ y.files.map Ent.nm) {m : List UInt8} (hm : m ∈ y.files.map Ent.nm) (hno : ¬ ∃ f ∈ z.files, f.nm = m) : z.files.length < 6 := by
  have nd : (z.files.map Ent.nm).Nodup := (List.pairwise_map.2 hz).imp (fun h e => by rw [e] at h; exact List.lt_irrefl _ h)
  have h1 : (m :: z.files.map Ent.nm).Nodup := List.nodup_cons.2 ⟨fun f => by obtain ⟨g, hg, e⟩ := List.mem_map.1 f; exact hno ⟨g, hg, e⟩, nd⟩
  have h2 : ∀ (A C : List (List UInt8)), A.Nodup → (∀ a ∈ A, a ∈ C) → A.length ≤ C.length := by
    intro A
    induction A with
    | nil => intro C _ _; simp
    | cons a A ih =>
      intro C hn hs
      obtain ⟨h3, h4⟩ := List.nodup_cons.1 hn
      have h5 := ih (C.erase a) h4 (fun b hb => (List.mem_erase_of_ne (fun e : b = a => h3 (by rw [← e]; exact hb))).2 (hs b (List.mem_cons_of_mem _ hb)))
      have h6 := List.length_erase_of_mem (hs a List.mem_cons_self)
      have h7 := List.length_pos_of_mem (hs a List.mem_cons_self)
      rw [List.length_cons]
      omega
  have h3 := h2 _ (y.files.map Ent.nm) h1 (fun a ha => by
    rcases List.mem_cons.1 ha with rfl | ha
    · exact hm
    · obtain ⟨f, hf, rfl⟩ := List.mem_map.1 ha
      exact hsub f hf)
  have h4 := hy.few
  rw [List.length_cons, List.length_map, List.length_map] at h3
  omega
theorem asks_all {n : Nat} {B : Nat → Blk} {key : Int} {x y : SetE} (hy : SetOk n B key y) : ∀ a ∈ (diffL key B x.files y.files).flatMap asksOf, Is345 a := by
  intro a ha
  obtain ⟨d, hd, ha⟩ := List.mem_flatMap.1 ha
  exact asks_is (diff_mem hy d hd).2 a ha
/-- nothing but a want of room is refused -/
theorem diff_fails {n : Nat} {B : Nat → Blk} {key : Int} {x y : SetE} {e' : Int} (hx : SetOk n B key x) (hy : SetOk n B key y) (hB : Std n key B x B x) (h : Fails n key B x ((diffL key B x.files y.files).flatMap asksOf) e') : e' = 8 := by
  obtain ⟨p, a, r, D, z, hl, hS, hT, hE⟩ := h
  have hall := asks_all (x := x) hy
  have hp : ∀ b ∈ p, Is345 b := fun b hb => hall b (by rw [hl]; exact List.mem_append_left _ hb)
  obtain ⟨_, hR⟩ := steps_rel (rel_sig hx.shape.order) hB hp hS
  obtain ⟨d1, d, d2, q1, q2, e1, e2, e3⟩ := flat_split hl
  have hzo := hT.nxt.ok.shape.order
  unfold diffL at e1
  have hcase : (∃ c, d1 = goneL x.files y.files ++ c ∧ y.files.flatMap (turnedL key B x.files) = c ++ d :: d2) ∨ ∃ c, goneL x.files y.files = d1 ++ d :: c := by
    rcases List.append_eq_append_iff.1 e1 with ⟨c, h1, h2⟩ | ⟨c, h1, h2⟩
    · exact .inl ⟨c, h1, h2⟩
    · rcases c with _ | ⟨c0, c⟩
      · exact .inl ⟨[], by rw [h1]; simp, h2.symm⟩
      · rw [List.cons_append] at h2
        cases h2
        exact .inr ⟨c, h1⟩
  rcases hcase with ⟨c, h1, h2⟩ | ⟨c, h1⟩
  · -- among the files of the other one
    have hdm : d ∈ y.files.flatMap (turnedL key B x.files) := by rw [h2]; exact List.mem_append_right _ List.mem_cons_self
    obtain ⟨e, he, hde⟩ := List.mem_flatMap.1 hdm
    obtain ⟨hdn, hdb, hdk⟩ := turned_ok (hy.ents e (List.mem_append_left _ he)) d hde
    have hen : e.nm ∈ y.files.map Ent.nm := List.mem_map_of_mem he
    have hNm : IsName e.name := hy.shape.names e he
    have hpe : p = (goneL x.files y.files).flatMap asksOf ++ (c.flatMap asksOf ++ q1) := by rw [e3, h1, List.flatMap_append, List.append_assoc]
    have hq1 : ∀ b ∈ q1, b.file = d.name := fun b hb => asks_file b (by rw [e2]; exact List.mem_append_left _ hb)
    have hsub : ∀ m, absRun (sigOf key B x.files) p m ≠ none → m ∈ y.files.map Ent.nm := by
      rw [hpe, absRun_append]
      refine absRun_sub _ _ (fun b hb => ?_) (fun m hm => (gone_sub hx m hm).1)
      rcases List.mem_append.1 hb with hb | hb
      · obtain ⟨d', hd', hb⟩ := List.mem_flatMap.1 hb
        have hdm' : d' ∈ y.files.flatMap (turnedL key B x.files) := by rw [h2]; exact List.mem_append_left _ hd'
        obtain ⟨g, hg, hdg⟩ := List.mem_flatMap.1 hdm'
        have h4 := (turned_ok (hy.ents g (List.mem_append_left _ hg)) d' hdg).1
        rw [asks_file b hb, h4]
        exact List.mem_map_of_mem (f := Ent.nm) hg
      · rw [hq1 b hb, hdn]
        exact hen
    have haf : a.file = e.name := by rw [asks_file a (by rw [e2]; exact List.mem_append_right _ List.mem_cons_self), hdn]
    have hroom : (∃ f ∈ z.files, f.nm = a.file.data.toList) ∨ z.files.length < 6 := by
      by_cases hth : ∃ f ∈ z.files, f.nm = a.file.data.toList
      · exact .inl hth
      · refine .inr (few_files hy.shape hzo (fun f hf => hsub _ (hR.has.1 ⟨f, hf, rfl⟩)) (m := a.file.data.toList) (by rw [haf]; exact hen) hth)
    have hsz := (hy.ents e (List.mem_append_left _ he)).sb
    rcases hdk with ⟨hk, hnum⟩ | ⟨hk, hn0, hn1⟩
    · have hao : asksOf d = [⟨3, nE, d.name, nE, 0, 0, []⟩, ⟨4, nE, d.name, nE, 0, d.num, []⟩] := by unfold asksOf; rw [if_neg (by omega), if_pos hk]
      rw [hao] at e2
      rcases q1 with _ | ⟨b, q1⟩
      · simp only [List.nil_append, List.cons.injEq] at e2
        obtain ⟨rfl, _⟩ := e2
        exact hE.1 rfl (by rw [haf]; exact hNm) ⟨by simp, by simp⟩ hroom
      · rcases q1 with _ | ⟨b2, q1⟩
        · simp only [List.cons_append, List.nil_append, List.cons.injEq] at e2
          obtain ⟨rfl, rfl, _⟩ := e2
          refine hE.2.1 rfl (by rw [haf]; exact hNm) ⟨by show 0 ≤ d.num ∧ d.num ≤ 256; omega, hR.has.2 ?_⟩
          rw [hpe, ← List.append_assoc, absRun_append]
          show absStep _ _ d.name.data.toList ≠ none
          have : absStep (absRun (sigOf key B x.files) ((goneL x.files y.files).flatMap asksOf ++ c.flatMap asksOf)) ⟨3, nE, d.name, nE, 0, 0, []⟩ d.name.data.toList = absNew _ ⟨3, nE, d.name, nE, 0, 0, []⟩ := absStep_eq
          rw [this]
          unfold absNew
          rw [if_neg (by simp), if_neg (by simp)]
          simp
        · simp at e2
    · have hao : asksOf d = [⟨3, nE, d.name, nE, d.num, 0, d.bytes⟩] := by unfold asksOf; rw [if_neg (by omega), if_neg (by omega), if_pos hk]
      rw [hao] at e2
      rcases q1 with _ | ⟨b, q1⟩
      · simp only [List.nil_append, List.cons.injEq] at e2
        obtain ⟨rfl, _⟩ := e2
        exact hE.1 rfl (by rw [haf]; exact hNm) ⟨hn0, hn1⟩ hroom
      · simp at e2
  · -- among what is gone
    exfalso
    unfold goneL at h1
    obtain ⟨l1, l2, g1, g2, g3⟩ := List.map_eq_append_iff.1 h1
    obtain ⟨e, l3, rfl, g4, g5⟩ := List.map_eq_cons_iff.1 g3
    have ho : InOrder (l1 ++ e :: l3) := by rw [← g1]; exact hx.shape.order.sublist (List.filter_sublist)
    have hem : e ∈ x.files := by
      have : e ∈ x.files.filter fun e => (look y.files e.name).isNone := by rw [g1]; exact List.mem_append_right _ List.mem_cons_self
      exact (List.mem_filter.1 this).1
    have hao : asksOf d = [⟨5, nE, e.name, nE, 0, 0, []⟩] := by rw [← g4]; rfl
    rw [hao] at e2
    rcases q1 with _ | ⟨b, q1⟩
    · simp only [List.nil_append, List.cons.injEq] at e2
      obtain ⟨rfl, _⟩ := e2
      refine hE.2.2 rfl (hR.has.2 ?_)
      show absRun (sigOf key B x.files) p e.nm ≠ none
      rw [e3, List.append_nil, absRun_ne _ _ (fun b hb f => ?_), sig_some hx.shape.order hem]
      · simp
      · obtain ⟨d', hd', hb⟩ := List.mem_flatMap.1 hb
        rw [← g2] at hd'
        obtain ⟨e', he', rfl⟩ := List.mem_map.1 hd'
        rw [asks_file b hb] at f
        have := (List.pairwise_append.1 ho).2.2 e' he' e List.mem_cons_self
        rw [show e'.nm = e.nm from f.symm] at this
        exact List.lt_irrefl _ this
    · simp at e2
/-- and where all was done, the files are the other one's -/
theorem diff_done {n : Nat} {B D : Nat → Blk} {key : Int} {x y z : SetE} (hx : SetOk n B key x) (hy : SetOk n B key y) (hb : ∀ i, i < n → Bytes (B i).bytes) (hB : Std n key B x B x) (h : Steps n key 999510 B x ((diffL key B x.files y.files).flatMap asksOf) D z) :
    Std n key B x D z ∧ z.files.length = y.files.length ∧ ∀ (k : Nat) (f g : Ent), y.files[k]? = some f → z.files[k]? = some g → f.name = g.name ∧ f.size = g.size ∧ fileL key (leafAt D 3 g.root) = fileL key (leafAt B 3 f.root) := by
  obtain ⟨hT, hR⟩ := steps_rel (rel_sig hx.shape.order) hB (asks_all (x := x) hy) h
  have hL : (diffL key B x.files y.files).flatMap asksOf = (goneL x.files y.files).flatMap asksOf ++ y.files.flatMap (asksE key B x.files) := by
    unfold diffL
    rw [List.flatMap_append, List.flatMap_assoc]
    rfl
  have hoy := hy.shape.order
  have hoz := hT.nxt.ok.shape.order
  have hfin : ∀ e ∈ y.files, absRun (sigOf key B x.files) ((diffL key B x.files y.files).flatMap asksOf) e.nm = some (e.size, fileL key (leafAt B 3 e.root)) := fun e he => by
    obtain ⟨k, hk⟩ := List.getElem?_of_mem he
    obtain ⟨hk1, hk2⟩ := List.getElem?_eq_some_iff.1 hk
    have hyl : y.files = y.files.take k ++ e :: y.files.drop (k + 1) := by rw [← hk2, List.getElem_cons_drop, List.take_append_drop]
    have ho2 := hoy
    rw [hyl] at ho2
    obtain ⟨_, ho3, ho4⟩ := List.pairwise_append.1 ho2
    obtain ⟨ho5, _⟩ := List.pairwise_cons.1 ho3
    have hT2 : y.files.flatMap (asksE key B x.files) = (y.files.take k).flatMap (asksE key B x.files) ++ (asksE key B x.files e ++ (y.files.drop (k + 1)).flatMap (asksE key B x.files)) := by
      conv => lhs; rw [hyl]
      rw [List.flatMap_append, List.flatMap_cons]
    rw [hL, hT2, absRun_append, absRun_append, absRun_append]
    rw [absRun_ne ((y.files.drop (k + 1)).flatMap (asksE key B x.files)) _ (fun a ha f => by
      obtain ⟨g, hg, ha⟩ := List.mem_flatMap.1 ha
      rw [asksE_file a ha] at f
      have := ho5 g hg
      rw [show g.nm = e.nm from f.symm] at this
      exact List.lt_irrefl _ this)]
    refine abs_file hx hy hb he ?_
    rw [absRun_ne ((y.files.take k).flatMap (asksE key B x.files)) _ (fun a ha f => by
      obtain ⟨g, hg, ha⟩ := List.mem_flatMap.1 ha
      rw [asksE_file a ha] at f
      have := ho4 g hg e List.mem_cons_self
      rw [show g.nm = e.nm from f.symm] at this
      exact List.lt_irrefl _ this)]
    exact gone_keeps hx he hoy
  have hsub : ∀ m, absRun (sigOf key B x.files) ((diffL key B x.files y.files).flatMap asksOf) m ≠ none → m ∈ y.files.map Ent.nm := by
    rw [hL, absRun_append]
    refine absRun_sub _ _ (fun a ha => ?_) (fun m hm => (gone_sub hx m hm).1)
    obtain ⟨g, hg, ha⟩ := List.mem_flatMap.1 ha
    rw [asksE_file a ha]
    exact List.mem_map_of_mem (f := Ent.nm) hg
  have hnames := names_same hoz hoy (fun t => by
    constructor
    · rintro ⟨f, hf, rfl⟩
      obtain ⟨g, hg, e⟩ := List.mem_map.1 (hsub f.nm (hR.has.1 ⟨f, hf, rfl⟩))
      exact ⟨g, hg, bytes_eq e⟩
    · rintro ⟨g, hg, rfl⟩
      obtain ⟨f, hf, e⟩ := hR.has.2 (show absRun (sigOf key B x.files) ((diffL key B x.files y.files).flatMap asksOf) g.nm ≠ none by rw [hfin g hg]; simp)
      exact ⟨f, hf, bytes_eq e⟩)
  refine ⟨hT, by have := congrArg List.length hnames; simpa using this, fun k f g hf hg => ?_⟩
  have e1 : f.name = g.name := by
    have h1 : (z.files.map (·.name))[k]? = (y.files.map (·.name))[k]? := by rw [hnames]
    rw [List.getElem?_map, List.getElem?_map, hf, hg] at h1
    simp at h1
    exact h1.symm
  have hfm := List.mem_of_getElem? hf
  have hgm := List.mem_of_getElem? hg
  have h2 := (hR g.nm g.size _).1 ⟨g, hgm, rfl, rfl, rfl⟩
  have h3 := hfin f hfm
  rw [show f.nm = g.nm from by unfold Ent.nm; rw [e1]] at h3
  rw [h3] at h2
  simp only [Option.some.injEq, Prod.mk.injEq] at h2
  exact ⟨e1, h2.1, h2.2.symm⟩
end Go.Proofs.YtnmcgmpmcliinaaGreat
