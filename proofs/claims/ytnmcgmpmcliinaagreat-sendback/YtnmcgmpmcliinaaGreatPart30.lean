/-
  Sets5, Chg, SetZ in one text. Nothing here is trusted.
-/
import Derived.Test.YtnmcgmpmcliinaaGreatPart24
import Derived.Test.YtnmcgmpmcliinaaGreatPart26
import Derived.Test.YtnmcgmpmcliinaaGreatPart17
import Derived.Test.YtnmcgmpmcliinaaGreatPart27
import Derived.Test.YtnmcgmpmcliinaaGreatPart28
import Derived.Test.YtnmcgmpmcliinaaGreatPart29
set_option linter.unusedVariables false
namespace Go.Proofs.YtnmcgmpmcliinaaGreat

theorem few_fell {n : Nat} {C D : Nat → Blk} {T : List Int} {c : Int} (hC : Right n C) (hF : Fell n C D T) (h : ∀ k, k < n → (C k).refs ≤ c) : ∀ k, k < n → (D k).refs ≤ c := fun k hk => by
  have h1 := h k hk
  rcases hF.same k hk with e | ⟨_, e, _⟩
  · have := (hC.one k hk).bounds
    rw [e]; show (0 : Int) ≤ c; omega
  · omega
theorem few_kept {B : Nat → Blk} {i n : Nat} {c : Int} (h : ∀ k, k < n → (B k).refs ≤ c) : ∀ k, k < n → (keptB B ((i : Int) + 1) k).refs ≤ c + 1 := fun k hk => by
  have := h k hk
  by_cases ek : k = i
  · subst ek; rw [kept_same]; show (B k).refs + 1 ≤ _; omega
  · rw [kept_other ek]; omega
/-- let go, what was held besides never was -/
theorem grow_back {n : Nat} {B C D : Nat → Blk} {K : List Int} (hB : Right n B) (h : Grow n B C K) (hD : Right n D) (hF : Fell n C D K) : ∀ k, k < n → D k = B k := by
  refine same_of hD hB (fun k hk => ?_) fun k hk => by rw [hF.outs k hk, h.out k hk]; omega
  by_cases e : (B k).refs = 0
  · exact .inr (.inl e)
  by_cases e1 : (D k).refs = 0
  · exact .inl e1
  have e0 : ((k : Int) + 1 - 1).toNat = k := by omega
  have hc := fell_content hF (x := (k : Int) + 1) ⟨by omega, by omega, by rw [e0]; exact e1⟩
  rw [e0] at hc
  obtain ⟨_, g1, g2, g3⟩ := h.ext.keep k hk e
  exact .inr (.inr ⟨hc.1.trans g1, hc.2.1.trans g2, hc.2.2.trans g3⟩)
theorem Stays.zero {n : Nat} {B C : Nat → Blk} {l : List Int} (h : Stays n B C l) : Stays n B C (0 :: l) := fun x hx => h x (hx.mono fun r hr h0 => by
  rcases List.mem_cons.1 hr with e | hr
  · exact absurd e h0
  · exact Clo.root hr h0)
theorem HeldR.sub {n : Nat} {B C : Nat → Blk} {R T : List Int} (h : HeldR n B R) (ht : ∀ r, T.count r ≤ R.count r) (ho : ∀ k, k < n → outs n B k ≤ outs n C k) : HeldR n C T := fun k hk => by
  have h1 := h k hk
  have h2 := ht ((k : Int) + 1)
  have h3 := ho k hk
  omega
theorem Grow.more {n : Nat} {B C : Nat → Blk} {K : List Int} (h : Grow n B C K) : ∀ k, k < n → outs n B k ≤ outs n C k := fun k hk => by
  rw [h.out k hk]; omega
theorem count_files (x : SetE) (r : Int) : (rootsE x.files).count r ≤ (rootsX x).count r := by
  unfold rootsX
  rw [List.count_append]
  omega
theorem count_snap {x : SetE} {s : SnapE} (h : s ∈ x.snaps) (r : Int) : (rootsE s.files).count r ≤ (rootsX x).count r := by
  obtain ⟨l, m, e⟩ := List.append_of_mem h
  have e2 : rootsS x.snaps = rootsS l ++ (rootsE s.files ++ rootsS m) := by rw [e, rootsS_append]; rfl
  unfold rootsX
  rw [e2]
  simp only [List.count_append]
  omega
theorem count_take_lt {T : List Int} {i : Nat} (hi : i < T.length) : (T.take i).count T[i] < T.count T[i] := by
  have e : T = T.take i ++ T[i] :: T.drop (i + 1) := by rw [List.getElem_cons_drop, List.take_append_drop]
  have e2 : T.count T[i] = (T.take i ++ T[i] :: T.drop (i + 1)).count T[i] := congrArg (List.count T[i]) e
  rw [e2]
  simp only [List.count_append, List.count_cons_self]
  omega
/-- the next of several roots can be let go -/
theorem droppable_next {n : Nat} {C D : Nat → Blk} {T : List Int} {i : Nat} (hD : Right n D) (hT : HeldR n C T) (hF : Fell n C D (T.take i)) (hi : i < T.length) (hb : 1 ≤ T[i] ∧ T[i] ≤ n) : Droppable n D T[i] := by
  have hlt := count_take_lt hi
  obtain ⟨k, hk⟩ : ∃ k : Nat, T[i] = (k : Int) + 1 := ⟨(T[i] - 1).toNat, by omega⟩
  rw [hk] at hlt hb ⊢
  have hkn : k < n := by omega
  refine droppable_of hD hkn ?_
  rw [hF.outs k hkn]
  have := hT k hkn
  omega
theorem fell_take_next {n : Nat} {C D E : Nat → Blk} {T : List Int} {i : Nat} (hi : i < T.length) (hF : Fell n C D (T.take i)) (h : Fell n D E [T[i]]) : Fell n C E (T.take (i + 1)) := by
  rw [List.take_succ_eq_append_getElem hi]
  exact hF.trans h
theorem grow_take_next {n : Nat} {C D E : Nat → Blk} {T : List Int} {i : Nat} (hi : i < T.length) (hF : Grow n C D (T.take i)) (h : Grow n D E [T[i]]) : Grow n C E (T.take (i + 1)) := by
  rw [List.take_succ_eq_append_getElem hi]
  exact hF.trans h

/-- SetSnap: what stands while it is asked -/
structure SnapInv (n : Nat) (key : Int) (B : Nat → Blk) (x : SetE) (nm : ByteArray) (C : Nat → Blk) (y : SetE) (c : Int) : Prop where
  ok : SetOk n C key y
  held : HeldR n C (rootsX y)
  moved : Moved n B C (rootsX x) (rootsX y)
  snap : ⟨nm, x.files⟩ ∈ y.snaps
  same : ∀ e ∈ x.files, fileL key (leafAt C 3 e.root) = fileL key (leafAt B 3 e.root)
  few : ∀ k, k < n → (C k).refs ≤ c
theorem snapInv_start {n : Nat} {key : Int} {B C : Nat → Blk} {x y : SetE} {nm : ByteArray} {c : Int} (h : After n key B C x y) (hs : ⟨nm, x.files⟩ ∈ y.snaps) (hc : ∀ k, k < n → (C k).refs ≤ c) : SnapInv n key B x nm C y c :=
  ⟨h.ok, h.held, h.moved, hs, fun e he => h.same e (List.mem_append_left _ he) (List.mem_append_right _ (List.mem_flatMap.2 ⟨_, hs, he⟩)), hc⟩
theorem SnapInv.step {n : Nat} {key : Int} {B C D : Nat → Blk} {x y z : SetE} {nm : ByteArray} {c d : Int} (h : SnapInv n key B x nm C y c) (ha : After n key C D y z) (hs : ⟨nm, x.files⟩ ∈ z.snaps) (hd : ∀ k, k < n → (D k).refs ≤ d) : SnapInv n key B x nm D z d :=
  ⟨ha.ok, ha.held, h.moved.trans ha.moved, hs, fun e he => (ha.same e (List.mem_append_right _ (List.mem_flatMap.2 ⟨_, h.snap, he⟩)) (List.mem_append_right _ (List.mem_flatMap.2 ⟨_, hs, he⟩))).trans (h.same e he), hd⟩
theorem SnapInv.mono {n : Nat} {key : Int} {B C : Nat → Blk} {x y : SetE} {nm : ByteArray} {c d : Int} (h : SnapInv n key B x nm C y c) (hd : c ≤ d) : SnapInv n key B x nm C y d := ⟨h.ok, h.held, h.moved, h.snap, h.same, fun k hk => Int.le_trans (h.few k hk) hd⟩
theorem SnapInv.file {n : Nat} {key : Int} {B C : Nat → Blk} {x y : SetE} {nm : ByteArray} {c : Int} (h : SnapInv n key B x nm C y c) : ∀ e ∈ x.files, FileOk n C key e.root e.size := fun e he => h.ok.ents e (List.mem_append_right _ (List.mem_flatMap.2 ⟨_, h.snap, he⟩))

/-- SetApart: what stands while the clone is asked: E is the store, w the clone -/
structure ApartInv (n : Nat) (key : Int) (B : Nat → Blk) (x : SetE) (C : Nat → Blk) (y : SetE) (E : Nat → Blk) (z : SetE) (c : Int) : Prop where
  ok : SetOk n E key z
  held : HeldR n E (rootsX z)
  moved : Moved n C E (rootsX y) (rootsX z)
  few : ∀ k, k < n → (E k).refs ≤ c
theorem ApartInv.step {n : Nat} {key : Int} {B C D E : Nat → Blk} {x y z u : SetE} {c d : Int} (h : ApartInv n key B x C y E z c) (ha : After n key E D z u) (hd : ∀ k, k < n → (D k).refs ≤ d) : ApartInv n key B x C y D u d := ⟨ha.ok, ha.held, h.moved.trans ha.moved, hd⟩
/-- the set reads as ahead -/
theorem apart_reads {n : Nat} {key : Int} {B C E : Nat → Blk} {x y z : SetE} {K : List Int} {c : Int} (hx : SetOk n B key x) (hh : HeldR n B (rootsX x)) (hg : Grow n B C K) (hy : ∀ r : Int, r ≠ 0 → (rootsX y).count r = K.count r) (h : ApartInv n key B x C y E z c) : SetOk n E key x ∧ ∀ e ∈ entsX x, fileL key (leafAt E 3 e.root) = fileL key (leafAt B 3 e.root) := by
  have hxC : SetOk n C key x := setOk_of hx.kb hg.right hx.shape (grow_files hx hg)
  obtain ⟨h1, h2⟩ := hxC.bytes (L := 0 :: baseL n C (rootsX y)) h.moved.right h.moved.stays.zero (fun r hr => by
    rcases hx.rootBd r hr with h0 | ⟨b1, b2⟩
    · exact h0 ▸ List.mem_cons_self
    · obtain ⟨k, rfl⟩ : ∃ k : Nat, r = (k : Int) + 1 := ⟨(r - 1).toNat, by omega⟩
      have hk : k < n := by omega
      refine List.mem_cons_of_mem _ (mem_baseL.2 ⟨k, hk, ?_, rfl⟩)
      rw [hg.out k hk, hy _ (by omega)]
      have := hh k hk
      have hc : 0 < (rootsX x).count ((k : Int) + 1) := List.count_pos_iff.2 hr
      omega)
  exact ⟨h1, fun e he => by rw [h2 e he]; exact ((hx.ents e he).ext hg.ext hg.right).2⟩
/-- the clone, let go, never was -/
theorem apart_gone {n : Nat} {key : Int} {B C E F G : Nat → Blk} {x y z : SetE} {K : List Int} {c : Int} (hB : Right n B) (hg : Grow n B C K) (hy : ∀ r : Int, r ≠ 0 → (rootsX y).count r = K.count r) (h : ApartInv n key B x C y E z c) (hG : Right n G) (hFG : Fell n C G (rootsX y)) (hF : Right n F) (hFF : Fell n E F (rootsX z)) : (∀ k, k < n → G k = B k) ∧ ∀ k, k < n → F k = B k := by
  have h1 : ∀ k, k < n → G k = B k := by
    refine same_of hG hB (fun k hk => ?_) fun k hk => by rw [hFG.outs k hk, hg.out k hk, hy _ (by omega)]; omega
    by_cases e : (B k).refs = 0
    · exact .inr (.inl e)
    by_cases e1 : (G k).refs = 0
    · exact .inl e1
    have e0 : ((k : Int) + 1 - 1).toNat = k := by omega
    have hc := fell_content hFG (x := (k : Int) + 1) ⟨by omega, by omega, by rw [e0]; exact e1⟩
    rw [e0] at hc
    obtain ⟨_, g1, g2, g3⟩ := hg.ext.keep k hk e
    exact .inr (.inr ⟨hc.1.trans g1, hc.2.1.trans g2, hc.2.2.trans g3⟩)
  have h2 := destroyed_same hg.right h.moved hG hFG hF hFF
  exact ⟨h1, fun k hk => (h2 k hk).trans (h1 k hk)⟩
end Go.Proofs.YtnmcgmpmcliinaaGreat

namespace Go.Proofs.YtnmcgmpmcliinaaGreat
open Go.RowKit

def overN (key : Int) (B : Nat → Blk) (a : AskE) : Int → Int → List Int := fun root size => overL ((fileL key (leafAt B 3 root)).take size.toNat) a.pos.toNat a.bytes
def cutN (key : Int) (B : Nat → Blk) (a : AskE) : Int → Int → List Int := fun root _ => (fileL key (leafAt B 3 root)).take a.num.toNat
def okW (a : AskE) : Prop := 0 ≤ a.pos ∧ a.pos + (a.bytes.length : Int) ≤ 256
def okC (x : SetE) (a : AskE) : Prop := (0 ≤ a.num ∧ a.num ≤ 256) ∧ ∃ f ∈ x.files, f.nm = a.file.data.toList
/-- write, cut -/
def Wrote (n : Nat) (B C : Nat → Blk) (key : Int) (x : SetE) (nm : ByteArray) (N : Int → Int → List Int) (cc made : Int) (y : SetE) : Prop :=
  ∃ root size, FileOk n B key root size ∧ TurnAt n B C key root (fileL key (leafAt B 3 root)) (padTo (N root size)) 64 made cc ∧ Turning x nm root size made ((N root size).length : Int) y
def NoRoom (n : Nat) (B : Nat → Blk) (key : Int) (x : SetE) (nm : ByteArray) (N : Int → Int → List Int) : Prop := ∃ root size, Named x nm root size ∧ n < usedTo B n + 4 * chg (fileL key (leafAt B 3 root)) (padTo (N root size)) 64
def Removed (x : SetE) (a : AskE) (y : SetE) : Prop := ∃ p, ∃ h : p < x.files.length, x.files[p].nm = a.file.data.toList ∧ y = { x with files := x.files.eraseIdx p }
def CanRename (x : SetE) (a : AskE) : Prop := (∃ f ∈ x.files, f.nm = a.file.data.toList) ∧ IsName a.to ∧ ¬ ∃ f ∈ x.files, f.nm = a.to.data.toList
def Renamed (x : SetE) (a : AskE) (y : SetE) : Prop := ∃ p q, ∃ h : p < x.files.length, x.files[p].nm = a.file.data.toList ∧ (∀ e ∈ (x.files.eraseIdx p).take q, e.nm < a.to.data.toList) ∧ (∀ e ∈ (x.files.eraseIdx p).drop q, a.to.data.toList < e.nm) ∧ y = { x with files := (x.files.eraseIdx p).take q ++ ⟨a.to, x.files[p].root, x.files[p].size⟩ :: (x.files.eraseIdx p).drop q }
def CanSnap (x : SetE) (a : AskE) : Prop := IsName a.to ∧ (¬ ∃ s ∈ x.snaps, s.nm = a.to.data.toList) ∧ x.snaps.length < 3
def Snapped (x : SetE) (a : AskE) (y : SetE) : Prop := ∃ q, (∀ s ∈ x.snaps.take q, s.nm < a.to.data.toList) ∧ (∀ s ∈ x.snaps.drop q, a.to.data.toList < s.nm) ∧ y = { x with snaps := x.snaps.take q ++ ⟨a.to, x.files⟩ :: x.snaps.drop q }
def HasSnap (x : SetE) (a : AskE) : Prop := IsName a.to ∧ ∃ s ∈ x.snaps, s.nm = a.to.data.toList
def Forgot (x : SetE) (a : AskE) (y : SetE) : Prop := ∃ q, ∃ h : q < x.snaps.length, x.snaps[q].nm = a.to.data.toList ∧ y = { x with snaps := x.snaps.eraseIdx q }
def WentBack (x : SetE) (a : AskE) (y : SetE) : Prop := ∃ q, ∃ h : q < x.snaps.length, x.snaps[q].nm = a.to.data.toList ∧ y = { x with files := x.snaps[q].files }
/-- what is done without a file being made -/
def Plain (x : SetE) (a : AskE) (y : SetE) : Prop :=
  (a.kind = 5 ∧ Removed x a y) ∨ (a.kind = 6 ∧ CanRename x a ∧ Renamed x a y) ∨ (a.kind = 7 ∧ CanSnap x a ∧ Snapped x a y) ∨ (a.kind = 8 ∧ HasSnap x a ∧ Forgot x a y) ∨ (a.kind = 9 ∧ HasSnap x a ∧ WentBack x a y)
def ChgYes (n : Nat) (B C : Nat → Blk) (key : Int) (x : SetE) (a : AskE) (made : Int) (y : SetE) (cc : Int) : Prop :=
  (a.kind = 3 ∧ IsName a.file ∧ okW a ∧ Wrote n B C key x a.file (overN key B a) cc made y) ∨ (a.kind = 4 ∧ IsName a.file ∧ okC x a ∧ Wrote n B C key x a.file (cutN key B a) cc made y) ∨ (Plain x a y ∧ C = B ∧ made = 0)
def ChgNo (n : Nat) (B : Nat → Blk) (key : Int) (x : SetE) (a : AskE) : Prop :=
  (a.kind = 3 → IsName a.file → okW a → ((∃ f ∈ x.files, f.nm = a.file.data.toList) ∨ x.files.length < 6) → NoRoom n B key x a.file (overN key B a)) ∧ (a.kind = 6 → ¬ CanRename x a) ∧ (a.kind = 7 → ¬ CanSnap x a) ∧ (a.kind = 8 → ¬ HasSnap x a) ∧ (a.kind = 9 → ¬ HasSnap x a)
/-- which error it is, where there is nothing wrong but that there is no room -/
def ErrIs (e : Int) (x : SetE) (a : AskE) : Prop :=
  (a.kind = 3 → IsName a.file → okW a → ((∃ f ∈ x.files, f.nm = a.file.data.toList) ∨ x.files.length < 6) → e = 8) ∧ (a.kind = 4 → IsName a.file → okC x a → e = 8) ∧ (a.kind = 5 → ¬ ∃ f ∈ x.files, f.nm = a.file.data.toList)
theorem errIs_of {e : Int} {x : SetE} {a : AskE} (h3 : a.kind ≠ 3) (h4 : a.kind ≠ 4) (h5 : a.kind = 5 → ¬ ∃ f ∈ x.files, f.nm = a.file.data.toList) : ErrIs e x a := ⟨fun h => absurd h h3, fun h => absurd h h4, h5⟩

theorem wrote_facts {n : Nat} {B C : Nat → Blk} {key : Int} {x y : SetE} {nm : ByteArray} {N : Int → Int → List Int} {cc made : Int} (hx : SetOk n B key x) (hn : IsName nm) (hN : ∀ root size, (N root size).length ≤ 256 ∧ Bytes (N root size)) (h : Wrote n B C key x nm N cc made y) :
    Grow n B C [made] ∧ (∀ k, k < n → (C k).refs ≤ cc + 48) ∧ Shape y ∧ (∀ e ∈ entsX y, FileOk n C key e.root e.size) ∧ (∀ r : Int, (rootsX y).count r ≤ (rootsX x).count r + [made].count r) ∧ y.snaps = x.snaps := by
  obtain ⟨root, size, hok, hT, p, ht⟩ := h
  have hg := hT.turned.grow
  have hs := hx.shape
  have hF := (hT.file hok (hN root size).1 (hN root size).2).1
  refine ⟨hg, hT.turned.few, ?_⟩
  rcases ht with ⟨hp, _, _, _, rfl⟩ | ⟨_, _, _, h6, h1, h2, rfl⟩
  · refine ⟨⟨hs.name, by simpa using hs.few, fun e he => ?_, ordered_set hs.order hp rfl, hs.fewS, hs.namesS, hs.orderS, hs.filesS⟩, fun e he => ?_, fun r => ?_, rfl⟩
    · rcases mem_set_or he with rfl | h
      · exact hs.names x.files[p] (List.getElem_mem hp)
      · exact hs.names e h
    · rcases List.mem_append.1 he with h | h
      · rcases mem_set_or h with rfl | h
        · exact hF
        · exact grow_files hx hg e (List.mem_append_left _ h)
      · exact grow_files hx hg e (List.mem_append_right _ h)
    · have := count_set hp ⟨(x.files[p]).name, made, ((N root size).length : Int)⟩ r
      have e : [(Ent.mk (x.files[p]).name made ((N root size).length : Int)).root].count r = [made].count r := rfl
      rw [e] at this
      unfold rootsX
      simp only [List.count_append]
      omega
  · refine ⟨⟨hs.name, by show (_ : Nat) ≤ 6; rw [length_insert]; omega, fun e he => ?_, ordered_insert (f := Ent.nm) hs.order h1 h2, hs.fewS, hs.namesS, hs.orderS, hs.filesS⟩, fun e he => ?_, fun r => ?_, rfl⟩
    · rcases mem_insert.1 he with rfl | h
      · exact hn
      · exact hs.names e h
    · rcases List.mem_append.1 he with h | h
      · rcases mem_insert.1 h with rfl | h
        · exact hF
        · exact grow_files hx hg e (List.mem_append_left _ h)
      · exact grow_files hx hg e (List.mem_append_right _ h)
    · have := count_insert (l := x.files) p ⟨nm, made, ((N root size).length : Int)⟩ r
      have e : [(Ent.mk nm made ((N root size).length : Int)).root].count r = [made].count r := rfl
      rw [e] at this
      unfold rootsX
      simp only [List.count_append]
      omega
theorem length_rootsE (l : List Ent) : (rootsE l).length = l.length := by simp [rootsE]
theorem plain_facts {n : Nat} {B : Nat → Blk} {key : Int} {x y : SetE} {a : AskE} (hx : SetOk n B key x) (h : Plain x a y) :
    Shape y ∧ (∀ e ∈ entsX y, FileOk n B key e.root e.size) ∧ (∀ r : Int, (rootsX y).count r ≤ (rootsX x).count r + 6) := by
  have hs := hx.shape
  rcases h with ⟨_, p, hp, _, rfl⟩ | ⟨_, ⟨_, hn, _⟩, p, q, hp, _, h1, h2, rfl⟩ | ⟨_, ⟨hn, _, h3⟩, q, h1, h2, rfl⟩ | ⟨_, _, q, hq, _, rfl⟩ | ⟨_, _, q, hq, _, rfl⟩
  · refine ⟨⟨hs.name, Nat.le_trans (List.eraseIdx_sublist _ _).length_le hs.few, fun e he => hs.names e ((List.eraseIdx_sublist _ _).subset he), ordered_erase hs.order p, hs.fewS, hs.namesS, hs.orderS, hs.filesS⟩, fun e he => ?_, fun r => ?_⟩
    · rcases List.mem_append.1 he with h | h
      · exact hx.ents e (List.mem_append_left _ ((List.eraseIdx_sublist _ _).subset h))
      · exact hx.ents e (List.mem_append_right _ h)
    · have := count_erase hp r
      unfold rootsX
      simp only [List.count_append]
      omega
  · have hmem := List.getElem_mem hp
    refine ⟨⟨hs.name, by show (_ : Nat) ≤ 6; rw [length_insert, List.length_eraseIdx, if_pos hp]; have := hs.few; omega, fun e he => ?_, ordered_insert (f := Ent.nm) (ordered_erase hs.order p) h1 h2, hs.fewS, hs.namesS, hs.orderS, hs.filesS⟩, fun e he => ?_, fun r => ?_⟩
    · rcases mem_insert.1 he with rfl | h
      · exact hn
      · exact hs.names e ((List.eraseIdx_sublist _ _).subset h)
    · rcases List.mem_append.1 he with h | h
      · rcases mem_insert.1 h with rfl | h
        · exact hx.ents x.files[p] (List.mem_append_left _ hmem)
        · exact hx.ents e (List.mem_append_left _ ((List.eraseIdx_sublist _ _).subset h))
      · exact hx.ents e (List.mem_append_right _ h)
    · have := count_erase hp r
      have h3 := count_insert (l := x.files.eraseIdx p) q ⟨a.to, (x.files[p]).root, (x.files[p]).size⟩ r
      have e : [(Ent.mk a.to (x.files[p]).root (x.files[p]).size).root].count r = [(x.files[p]).root].count r := rfl
      rw [e] at h3
      unfold rootsX
      simp only [List.count_append]
      omega
  · refine ⟨⟨hs.name, hs.few, hs.names, hs.order, by show (_ : Nat) ≤ 3; rw [length_insert]; omega, fun s hsm => ?_, ordered_insert (f := SnapE.nm) hs.orderS h1 h2, fun s hsm => ?_⟩, fun e he => ?_, fun r => ?_⟩
    · rcases mem_insert.1 hsm with rfl | h
      · exact hn
      · exact hs.namesS s h
    · rcases mem_insert.1 hsm with rfl | h
      · exact ⟨hs.few, hs.names, hs.order⟩
      · exact hs.filesS s h
    · rcases List.mem_append.1 he with h | h
      · exact hx.ents e (List.mem_append_left _ h)
      · obtain ⟨s, hsm, h⟩ := List.mem_flatMap.1 h
        rcases mem_insert.1 hsm with rfl | hsm
        · exact hx.ents e (List.mem_append_left _ h)
        · exact hx.ents e (List.mem_append_right _ (List.mem_flatMap.2 ⟨s, hsm, h⟩))
    · have := count_snap_insert (l := x.snaps) q ⟨a.to, x.files⟩ r
      have e : (rootsE (SnapE.mk a.to x.files).files).count r = (rootsE x.files).count r := rfl
      rw [e] at this
      have h6 : (rootsE x.files).count r ≤ 6 := Nat.le_trans List.count_le_length (by rw [length_rootsE]; exact hs.few)
      unfold rootsX
      simp only [List.count_append]
      omega
  · have hsub : ∀ s, s ∈ x.snaps.eraseIdx q → s ∈ x.snaps := fun s h => (List.eraseIdx_sublist _ _).subset h
    refine ⟨⟨hs.name, hs.few, hs.names, hs.order, Nat.le_trans (List.eraseIdx_sublist _ _).length_le hs.fewS, fun s h => hs.namesS s (hsub s h), ordered_erase hs.orderS q, fun s h => hs.filesS s (hsub s h)⟩, fun e he => ?_, fun r => ?_⟩
    · rcases List.mem_append.1 he with h | h
      · exact hx.ents e (List.mem_append_left _ h)
      · obtain ⟨s, hsm, h⟩ := List.mem_flatMap.1 h
        exact hx.ents e (List.mem_append_right _ (List.mem_flatMap.2 ⟨s, hsub s hsm, h⟩))
    · have := count_snap_erase hq r
      unfold rootsX
      simp only [List.count_append]
      omega
  · have hmem := List.getElem_mem hq
    refine ⟨⟨hs.name, (hs.filesS _ hmem).1, (hs.filesS _ hmem).2.1, (hs.filesS _ hmem).2.2, hs.fewS, hs.namesS, hs.orderS, hs.filesS⟩, fun e he => ?_, fun r => ?_⟩
    · rcases List.mem_append.1 he with h | h
      · exact hx.ents e (List.mem_append_right _ (List.mem_flatMap.2 ⟨_, hmem, h⟩))
      · exact hx.ents e (List.mem_append_right _ h)
    · have h6 : (rootsE (x.snaps[q]).files).count r ≤ 6 := Nat.le_trans List.count_le_length (by rw [length_rootsE]; exact (hs.filesS _ hmem).1)
      unfold rootsX
      simp only [List.count_append]
      omega

theorem over_bytes {key : Int} {B : Nat → Blk} {a : AskE} (hb : Bytes a.bytes) (ho : okW a) (root size : Int) : (overN key B a root size).length ≤ 256 ∧ Bytes (overN key B a root size) :=
  ⟨over_len key (leafAt B 3 root) size.toNat a.pos.toNat a.bytes (by have := ho.1; have := ho.2; omega), overL_bytes (fun z hz => fileL_bytes _ _ z (List.mem_of_mem_take hz)) hb⟩
theorem cut_bytes {key : Int} {B : Nat → Blk} {a : AskE} {x : SetE} (ho : okC x a) (root size : Int) : (cutN key B a root size).length ≤ 256 ∧ Bytes (cutN key B a root size) :=
  ⟨by unfold cutN; rw [List.length_take, fileL_length]; omega, fun z hz => fileL_bytes _ _ z (List.mem_of_mem_take hz)⟩
/-- how many more there may be who hold a block -/
def moreOf (a : AskE) : Int := if a.kind = 3 ∨ a.kind = 4 then 48 else 0
def leftOf (a : AskE) : Int := if a.kind = 3 ∨ a.kind = 4 then 48 else 6
/-- what change does -/
structure Chg (n : Nat) (B C : Nat → Blk) (key : Int) (x : SetE) (a : AskE) (made : Int) (y : SetE) (cc : Int) : Prop where
  grow : Grow n B C [made]
  few : ∀ k, k < n → (C k).refs ≤ cc + moreOf a
  shape : Shape y
  files : ∀ e ∈ entsX y, FileOk n C key e.root e.size
  left : ∀ r : Int, ((rootsX y).count r : Int) ≤ ((rootsX x).count r : Int) + ([made].count r : Int) + leftOf a - moreOf a
theorem ChgYes.chg {n : Nat} {B C : Nat → Blk} {key : Int} {x y : SetE} {a : AskE} {made cc : Int} (hx : SetOk n B key x) (hb : Bytes a.bytes) (hc : ∀ k, k < n → (B k).refs ≤ cc) (h : ChgYes n B C key x a made y cc) : Chg n B C key x a made y cc := by
  rcases h with ⟨hk, hn, ho, h⟩ | ⟨hk, hn, ho, h⟩ | ⟨h, rfl, rfl⟩
  · obtain ⟨h1, h2, h3, h4, h5, _⟩ := wrote_facts hx hn (over_bytes hb ho) h
    refine ⟨h1, fun k hk' => ?_, h3, h4, fun r => ?_⟩
    · have := h2 k hk'; unfold moreOf; rw [if_pos (.inl hk)]; exact this
    · have := h5 r; unfold moreOf leftOf; rw [if_pos (.inl hk), if_pos (.inl hk)]; omega
  · obtain ⟨h1, h2, h3, h4, h5, _⟩ := wrote_facts hx hn (cut_bytes ho) h
    refine ⟨h1, fun k hk' => ?_, h3, h4, fun r => ?_⟩
    · have := h2 k hk'; unfold moreOf; rw [if_pos (.inr hk)]; exact this
    · have := h5 r; unfold moreOf leftOf; rw [if_pos (.inr hk), if_pos (.inr hk)]; omega
  · have hk : ¬ (a.kind = 3 ∨ a.kind = 4) := by
      rcases h with ⟨h, _⟩ | ⟨h, _⟩ | ⟨h, _⟩ | ⟨h, _⟩ | ⟨h, _⟩ <;> omega
    obtain ⟨h3, h4, h5⟩ := plain_facts hx h
    refine ⟨(grow_nil hx.right).zero, fun k hk' => ?_, h3, h4, fun r => ?_⟩
    · have := hc k hk'; unfold moreOf; rw [if_neg hk]; omega
    · have := h5 r; unfold moreOf leftOf; rw [if_neg hk, if_neg hk]; omega
theorem length_rootsX {x : SetE} (h : Shape x) : (rootsX x).length ≤ 24 := by
  have h1 : ∀ l : List SnapE, (∀ s ∈ l, s.files.length ≤ 6) → (rootsS l).length ≤ 6 * l.length := by
    intro l
    induction l with
    | nil => intro _; simp [rootsS]
    | cons s l ih =>
      intro hl
      have h2 := ih fun s hs => hl s (List.mem_cons_of_mem _ hs)
      have h3 := hl s List.mem_cons_self
      show (rootsE s.files ++ rootsS l).length ≤ _
      rw [List.length_append, length_rootsE, List.length_cons]
      omega
  have h2 := h1 x.snaps (fun s hs => (h.filesS s hs).1)
  have h3 := h.fewS
  have h4 := h.few
  unfold rootsX
  rw [List.length_append, length_rootsE]
  omega
theorem Chg.there {n : Nat} {B C : Nat → Blk} {key : Int} {x y : SetE} {a : AskE} {made cc : Int} (h : Chg n B C key x a made y cc) : ∀ r ∈ rootsX y, r = 0 ∨ There n C r := fun r hr => by
  rw [rootsX_eq] at hr
  obtain ⟨e, he, rfl⟩ := mem_rootsE.1 hr
  rcases (h.files e he).rooted with h0 | ⟨h1, _⟩
  · exact .inl h0
  · exact .inr h1
/-- what Shift wants -/
theorem Chg.room {n : Nat} {B C : Nat → Blk} {key : Int} {x y : SetE} {a : AskE} {made cc : Int} (h : Chg n B C key x a made y cc) (hcc : cc + moreOf a + 24 ≤ 1000000) : ∀ i, i < n → (C i).refs + ((rootsX y).length : Int) ≤ 1000000 := fun i hi => by
  have h1 := h.few i hi
  have h2 := length_rootsX h.shape
  omega
theorem Chg.out {n : Nat} {B C : Nat → Blk} {key : Int} {x y : SetE} {a : AskE} {made cc : Int} (h : Chg n B C key x a made y cc) (hh : HeldR n B (rootsX x)) : ∀ k, k < n → ((rootsX x ++ [made]).count ((k : Int) + 1) : Int) ≤ outs n C k + ((rootsX y).count ((k : Int) + 1) : Int) := fun k hk => by
  rw [h.grow.out k hk, List.count_append]
  have := hh k hk
  omega
/-- what Do leaves -/
theorem Chg.done {n : Nat} {B C D : Nat → Blk} {key : Int} {x y : SetE} {a : AskE} {made cc : Int} (hx : SetOk n B key x) (hh : HeldR n B (rootsX x)) (h : Chg n B C key x a made y cc) (hcc : cc + moreOf a + 24 ≤ 1000000) (hD : Right n D) (hF : Fell n (moreB C (rootsX y)) D (rootsX x ++ [made])) :
    After n key B D x y ∧ (∀ e ∈ entsX y, fileL key (leafAt D 3 e.root) = fileL key (leafAt C 3 e.root)) ∧ ∀ k, k < n → (D k).refs ≤ cc + leftOf a := by
  have hg2 := grow_moreB h.grow.right h.there (h.room hcc)
  have hg := h.grow.trans hg2
  have h1 := after_of (y := y) hx hh hg hD hF (fun r _ => by simp only [List.count_append]; omega) h.shape (fun e he => ((h.files e he).ext hg2.ext hg2.right).1)
  refine ⟨h1.1, fun e he => (h1.2 e he).trans ((h.files e he).ext hg2.ext hg2.right).2, fun k hk => ?_⟩
  have h2 := fell_refs hF k hk
  have h3 := h.few k hk
  have h4 := h.left ((k : Int) + 1)
  rw [moreB_refs, List.count_append] at h2
  omega
end Go.Proofs.YtnmcgmpmcliinaaGreat

namespace Go.Proofs.YtnmcgmpmcliinaaGreat
open Go.RowKit

/-- the set is another one, the store stays -/
theorem Two.next {base : Nat} {L : Nat → Prop} {w w' : World} {ob yb g n : Nat} {B : Nat → Blk} {v v' : SetV} {x y : SetE} {ms ms' : List SnapM} (h : Two base L w ob yb g n B v x ms) (on : Only (Mine yb v) w w') (hS : SetP base (fun b => L b ∨ w.heap.size ≤ b) w' yb v' y ms') (hm : ∀ b, v'.mine b → v.mine b ∨ w.heap.size ≤ b) :
    Two base (fun b => L b ∨ w.heap.size ≤ b) w' ob yb g n B v' y ms' := by
  have hol := h.box.lt
  have hgl := h.own.lt
  have hog : ¬ Mine yb v ob := by
    rintro (e | e)
    · exact h.no.1 e
    · exact h.no.2.1 e
  have hgg : ¬ Mine yb v g := by
    rintro (e | e)
    · exact h.ng.1 e
    · exact h.ng.2.1 e
  have hnew : ∀ b, b < w.heap.size → ¬ v.mine b → ¬ v'.mine b := fun b hb hn f => by
    rcases hm b f with f | f
    · exact hn f
    · omega
  have hb : Blocks (fun b => g < b ∧ (b ≠ yb ∧ ¬ v.mine b ∧ b ≠ ob)) w g 0 n B := by
    intro i hi
    obtain ⟨ka, kn, kc, ba, bn, bc, h1⟩ := h.own.blocks i hi
    obtain ⟨ka', kn', kc', ba', bn', bc', h2⟩ := h.lists i hi
    have e1 : Value.slice ka kn kc = .slice ka' kn' kc' := Option.some.inj (h1.c2.symm.trans h2.c2)
    have e2 : Value.slice ba bn bc = .slice ba' bn' bc' := Option.some.inj (h1.c3.symm.trans h2.c3)
    simp only [Value.slice.injEq] at e1 e2
    obtain ⟨rfl, rfl, rfl⟩ := e1
    obtain ⟨rfl, rfl, rfl⟩ := e2
    exact ⟨ka, kn, kc, ba, bn, bc, h1.c0, h1.c1, h1.c2, h1.c3, numsAt_both h1.kids h2.kids, numsAt_both h1.bytes h2.bytes, h1.refs, h1.level, h1.caps⟩
  have hb2 : Blocks (fun b => (g < b ∧ (b ≠ yb ∧ ¬ v'.mine b ∧ b ≠ ob)) ∧ ¬ Mine yb v b) w g 0 n B := hb.weaken (fun b hl q => ⟨⟨q.1, q.2.1, hnew b hl q.2.2.1, q.2.2.2⟩, fun e => by
    rcases e with e | e
    · exact q.2.1 e
    · exact q.2.2.1 e⟩)
  have hb3 := on.blocks hb2 hgg h.own.lt (fun k q e => q.2 e)
  refine ⟨⟨Nat.lt_of_lt_of_le h.own.lt on.size, hb3.weaken (fun b _ q => q.1.1), fun i hi => (World.frozen?_of_block (w := w) (on.block g h.own.lt hgg)).trans (h.own.free i hi)⟩, on.cells h.box hog, hS, ⟨h.no.1, hnew ob hol h.no.2.1, ?_, h.no.2.2.2⟩, ⟨h.ng.1, hnew g hgl h.ng.2.1, ?_, h.ng.2.2.2⟩, hb3.weaken (fun b _ q => q.1.2), ?_⟩
  · rintro (e | e)
    · exact h.no.2.2.1 e
    · omega
  · rintro (e | e)
    · exact h.ng.2.2.1 e
    · omega
  · rintro b (e | e)
    · exact h.lb b e
    · have := h.ng.2.2.2; omega

/-- what change answers -/
def RetChg (base : Nat) (w : World) (ob yb n : Nat) (B : Nat → Blk) (key : Int) (v : SetV) (x : SetE) (a : AskE) (cc : Int) (e : Ending) (w' : World) : Prop :=
  ∃ made e' : Int, e = .returned (.tuple #[.int .i64 made, .int .i64 e']) ∧ Only (fun b => b = ob ∨ Mine yb v b) w w' ∧
    ((e' ≠ 0 ∧ ChgNo n B key x a ∧ ErrIs e' x a) ∨ (e' = 0 ∧ ∃ (g : Nat) (C : Nat → Blk) (L : Nat → Prop) (v' : SetV) (y : SetE) (ms : List SnapM), ChgYes n B C key x a made y cc ∧ Two base L w' ob yb g n C v' y ms))
theorem RetDo.int {base : Nat} {L : Nat → Prop} {w w' : World} {yb : Nat} {v : SetV} {ok : Prop} {R : SetE → Prop} {e : Ending} (h : RetDo base L w yb v ok R e w') : ∃ e' : Int, e = .returned (.int .i64 e') := by
  rcases h.2 with ⟨e', h, _⟩ | ⟨h, _⟩
  · exact ⟨e', h⟩
  · exact ⟨0, h⟩
theorem retChg_do {base : Nat} {L : Nat → Prop} {w w0 w' : World} {ob yb g n : Nat} {B : Nat → Blk} {key : Int} {v : SetV} {x : SetE} {ms : List SnapM} {a : AskE} {cc e' : Int} {ok : Prop} {R : SetE → Prop} (b0 : Below w.heap.size w w0) (hT : Two base L w0 ob yb g n B v x ms) (h : RetDo base L w0 yb v ok R (.returned (.int .i64 e')) w') (hE : ¬ ok → ErrIs e' x a) (hno : ¬ ok → ChgNo n B key x a) (hyes : ∀ y, ok → R y → Plain x a y) :
    RetChg base w ob yb n B key v x a cc (.returned (.tuple #[.int .i64 0, .int .i64 e'])) w' := by
  obtain ⟨on, h⟩ := h
  refine ⟨0, e', rfl, (Only.of_below b0).trans (on.mono (fun b _ h => .inr h)), ?_⟩
  rcases h with ⟨e1, he, h1, h2⟩ | ⟨he, h1, v', y, ms', hR, hP, hm⟩
  · simp only [Ending.returned.injEq, Value.int.injEq, true_and] at he
    exact .inl ⟨he ▸ h1, hno h2, hE h2⟩
  · simp only [Ending.returned.injEq, Value.int.injEq, true_and] at he
    exact .inr ⟨he, g, B, _, v', y, ms', .inr (.inr ⟨hyes y h1 hR, rfl, rfl⟩), hT.next on hP hm⟩
theorem retChg_write {base : Nat} {w w0 w' : World} {ob yb n : Nat} {B : Nat → Blk} {key : Int} {v : SetV} {x : SetE} {a : AskE} {cc : Int} {e : Ending} (b0 : Below w.heap.size w w0) (hk : a.kind = 3) (h : RetWr base w0 ob yb n B key v x a.file (0 ≤ a.pos ∧ a.pos + (a.bytes.length : Int) ≤ 256) (fun root size => overL ((fileL key (leafAt B 3 root)).take size.toNat) a.pos.toNat a.bytes) cc e w') :
    RetChg base w ob yb n B key v x a cc e w' := by
  obtain ⟨made, e', he, on, h⟩ := h
  refine ⟨made, e', he, (Only.of_below b0).trans on, ?_⟩
  rcases h with ⟨h1, h2⟩ | ⟨h1, h2, h3, root, size, h4, g, C, L, v', y, ms, h5, h6, h7⟩
  · exact .inl ⟨h1, ⟨fun _ f1 f2 f3 => (h2 f1 f2 f3).2, fun h => absurd (hk.symm.trans h) (by decide), fun h => absurd (hk.symm.trans h) (by decide), fun h => absurd (hk.symm.trans h) (by decide), fun h => absurd (hk.symm.trans h) (by decide)⟩, fun _ f1 f2 f3 => (h2 f1 f2 f3).1, fun h => absurd (hk.symm.trans h) (by decide), fun h => absurd (hk.symm.trans h) (by decide)⟩
  · exact .inr ⟨h1, g, C, L, v', y, ms, .inl ⟨hk, h2, h3, root, size, h4, h5, h6⟩, h7⟩
theorem retChg_cut {base : Nat} {w w0 w' : World} {ob yb n : Nat} {B : Nat → Blk} {key : Int} {v : SetV} {x : SetE} {a : AskE} {cc : Int} {e : Ending} (b0 : Below w.heap.size w w0) (hk : a.kind = 4) (h : RetWr base w0 ob yb n B key v x a.file ((0 ≤ a.num ∧ a.num ≤ 256) ∧ ∃ f ∈ x.files, f.nm = a.file.data.toList) (fun root _ => (fileL key (leafAt B 3 root)).take a.num.toNat) cc e w') :
    RetChg base w ob yb n B key v x a cc e w' := by
  obtain ⟨made, e', he, on, h⟩ := h
  refine ⟨made, e', he, (Only.of_below b0).trans on, ?_⟩
  rcases h with ⟨h1, h2⟩ | ⟨h1, h2, h3, root, size, h4, g, C, L, v', y, ms, h5, h6, h7⟩
  · exact .inl ⟨h1, ⟨fun h => absurd (hk.symm.trans h) (by decide), fun h => absurd (hk.symm.trans h) (by decide), fun h => absurd (hk.symm.trans h) (by decide), fun h => absurd (hk.symm.trans h) (by decide), fun h => absurd (hk.symm.trans h) (by decide)⟩, fun h => absurd (hk.symm.trans h) (by decide), fun _ f1 f2 => (h2 f1 f2 (.inl f2.2)).1, fun h => absurd (hk.symm.trans h) (by decide)⟩
  · exact .inr ⟨h1, g, C, L, v', y, ms, .inr (.inl ⟨hk, h2, h3, root, size, h4, h5, h6⟩), h7⟩
theorem chgNo_of {n : Nat} {B : Nat → Blk} {key : Int} {x : SetE} {a : AskE} (h3 : a.kind ≠ 3) (h6 : a.kind = 6 → ¬ CanRename x a) (h7 : a.kind = 7 → ¬ CanSnap x a) (h8 : a.kind = 8 → ¬ HasSnap x a) (h9 : a.kind = 9 → ¬ HasSnap x a) : ChgNo n B key x a := ⟨fun h => absurd h h3, h6, h7, h8, h9⟩

set_option maxHeartbeats 4000000 in
set_option maxRecDepth 100000 in
theorem change_any (base : Nat) (L : Nat → Prop) (ob yb g n : Nat) (B : Nat → Blk) (key : Int) (v : SetV) (x : SetE) (ms : List SnapM) (a : AskE) (ba : Option Addr) (bn bc : Nat) (cc : Int) (w : World) (hT : Two base L w ob yb g n B v x ms) (hx : SetOk n B key x) (hB : NumsAt (fun _ => True) .u8 w ba bn a.bytes) (hao : a.ok) (h64 : 64 ≤ cc) (hcm : (a.kind = 3 ∨ a.kind = 4) → cc ≤ 999936) (hc : ∀ k, k < n → (B k).refs ≤ cc) (hbw : base ≤ w.heap.size) :
    Calls Tryz.prog 78 #[.pointer (some ⟨ob, 0, none⟩), .int .i64 key, .pointer (some ⟨yb, 0, none⟩), a.val ba bn bc] w fun e w' => RetChg base w ob yb n B key v x a cc e w' := by
  have b0 := below_alloc w (.cells #[.int .i64 a.kind, .string a.set, .string a.file, .string a.to, .int .i64 a.pos, .int .i64 a.num, .slice ba bn bc] 30)
  have hT0 := hid (hT.below b0)
  have hB0 := hid (hB.below b0)
  have hbw0 := Nat.le_trans hbw b0.size
  have hsh := hid hx.shape
  have hfs : a.file.size ≤ maxLen := hao.1.2.1
  have hts : a.to.size ≤ maxLen := hao.1.2.2
  replace hx := hid hx
  replace hc := hid hc
  replace hcm := hid hcm
  replace hao := hid hao
  replace hbw0 := hid hbw0
  clear hT hB
  unfold AskE.val
  by_cases hk3 : a.kind = 3
  · have e3 : (a.kind == 3) = true := by simp [hk3]
    have hk : Hid (a.kind = 3) := hid hk3
    clear hk3
    go_enter Tryz.func78, Tryz.ntmps78
    go_wp2_with fail
    by_cases hth : ∃ f ∈ x.files, f.nm = a.file.data.toList
    · refine (write_there base L ob yb g n B key v x ms a ba bn bc cc _ hT0.out hx.out hB0.out hao.out h64 (hcm.out (.inl hk.out)) hc.out hbw0.out hth).mono ?_
      rintro e w' h
      have J := hid (retChg_write b0 hk.out h)
      obtain ⟨made, e', rfl, _⟩ := h
      clear hth
      go_wp2_with fail
      go_ret2
      exact J.out
    · refine (write_new base L ob yb g n B key v x ms a ba bn bc cc _ hT0.out hx.out hB0.out hao.out h64 (hcm.out (.inl hk.out)) hc.out hbw0.out hth).mono ?_
      rintro e w' h
      have J := hid (retChg_write b0 hk.out h)
      obtain ⟨made, e', rfl, _⟩ := h
      clear hth
      go_wp2_with fail
      go_ret2
      exact J.out
  have e3 : (a.kind == 3) = false := by simp [hk3]
  replace hk3 := hid hk3
  by_cases hk4 : a.kind = 4
  · have e4 : (a.kind == 4) = true := by simp [hk4]
    have hk : Hid (a.kind = 4) := hid hk4
    clear hk4
    go_enter Tryz.func78, Tryz.ntmps78
    go_wp2_with fail
    refine (cut_any base L ob yb g n B key v x ms a ba bn bc cc _ hT0.out hx.out hao.out h64 (hcm.out (.inr hk.out)) hc.out hbw0.out).mono ?_
    rintro e w' h
    have J := hid (retChg_cut b0 hk.out h)
    obtain ⟨made, e', rfl, _⟩ := h
    go_wp2_with fail
    go_ret2
    exact J.out
  have e4 : (a.kind == 4) = false := by simp [hk4]
  replace hk4 := hid hk4
  by_cases hk5 : a.kind = 5
  · have e5 : (a.kind == 5) = true := by simp [hk5]
    have hk : Hid (a.kind = 5) := hid hk5
    clear hk5
    go_enter Tryz.func78, Tryz.ntmps78
    go_wp2_with fail
    refine (remove_any base L yb v x ms a.file _ hT0.out.set hsh.out).mono ?_
    rintro e w' h
    obtain ⟨e', rfl⟩ := h.int
    have J := hid (retChg_do (key := key) (a := a) (cc := cc) b0 hT0.out h (fun h => errIs_of (by rw [hk.out]; decide) (by rw [hk.out]; decide) (fun _ => h)) (fun h => chgNo_of (fun f => absurd (hk.out.symm.trans f) (by decide)) (fun f => absurd (hk.out.symm.trans f) (by decide)) (fun f => absurd (hk.out.symm.trans f) (by decide)) (fun f => absurd (hk.out.symm.trans f) (by decide)) (fun f => absurd (hk.out.symm.trans f) (by decide))) (fun y h hR => .inl ⟨hk.out, hR⟩))
    clear h
    go_wp2_with fail
    go_ret2
    exact J.out
  have e5 : (a.kind == 5) = false := by simp [hk5]
  replace hk5 := hid hk5
  by_cases hk6 : a.kind = 6
  · have e6 : (a.kind == 6) = true := by simp [hk6]
    have hk : Hid (a.kind = 6) := hid hk6
    clear hk6
    go_enter Tryz.func78, Tryz.ntmps78
    go_wp2_with fail
    refine (rename_any base L yb v x ms a.file a.to _ hT0.out.set hsh.out hts hbw0.out).mono ?_
    rintro e w' h
    obtain ⟨e', rfl⟩ := h.int
    have J := hid (retChg_do (key := key) (a := a) (cc := cc) b0 hT0.out h (fun _ => errIs_of (by rw [hk.out]; decide) (by rw [hk.out]; decide) (fun f => absurd (hk.out.symm.trans f) (by decide))) (fun h => chgNo_of (fun f => absurd (hk.out.symm.trans f) (by decide)) (fun _ => h) (fun f => absurd (hk.out.symm.trans f) (by decide)) (fun f => absurd (hk.out.symm.trans f) (by decide)) (fun f => absurd (hk.out.symm.trans f) (by decide))) (fun y h hR => .inr (.inl ⟨hk.out, h, hR⟩)))
    clear h
    go_wp2_with fail
    go_ret2
    exact J.out
  have e6 : (a.kind == 6) = false := by simp [hk6]
  replace hk6 := hid hk6
  by_cases hk7 : a.kind = 7
  · have e7 : (a.kind == 7) = true := by simp [hk7]
    have hk : Hid (a.kind = 7) := hid hk7
    clear hk7
    go_enter Tryz.func78, Tryz.ntmps78
    go_wp2_with fail
    refine (snapshot_any base L yb v x ms a.to _ hT0.out.set hsh.out hts hbw0.out).mono ?_
    rintro e w' h
    obtain ⟨e', rfl⟩ := h.int
    have J := hid (retChg_do (key := key) (a := a) (cc := cc) b0 hT0.out h (fun _ => errIs_of (by rw [hk.out]; decide) (by rw [hk.out]; decide) (fun f => absurd (hk.out.symm.trans f) (by decide))) (fun h => chgNo_of (fun f => absurd (hk.out.symm.trans f) (by decide)) (fun f => absurd (hk.out.symm.trans f) (by decide)) (fun _ => h) (fun f => absurd (hk.out.symm.trans f) (by decide)) (fun f => absurd (hk.out.symm.trans f) (by decide))) (fun y h hR => .inr (.inr (.inl ⟨hk.out, h, hR⟩))))
    clear h
    go_wp2_with fail
    go_ret2
    exact J.out
  have e7 : (a.kind == 7) = false := by simp [hk7]
  replace hk7 := hid hk7
  by_cases hk8 : a.kind = 8
  · have e8 : (a.kind == 8) = true := by simp [hk8]
    have hk : Hid (a.kind = 8) := hid hk8
    clear hk8
    go_enter Tryz.func78, Tryz.ntmps78
    go_wp2_with fail
    refine (forget_any base L yb v x ms a.to _ hT0.out.set hsh.out hts).mono ?_
    rintro e w' h
    obtain ⟨e', rfl⟩ := h.int
    have J := hid (retChg_do (key := key) (a := a) (cc := cc) b0 hT0.out h (fun _ => errIs_of (by rw [hk.out]; decide) (by rw [hk.out]; decide) (fun f => absurd (hk.out.symm.trans f) (by decide))) (fun h => chgNo_of (fun f => absurd (hk.out.symm.trans f) (by decide)) (fun f => absurd (hk.out.symm.trans f) (by decide)) (fun f => absurd (hk.out.symm.trans f) (by decide)) (fun _ => h) (fun f => absurd (hk.out.symm.trans f) (by decide))) (fun y h hR => .inr (.inr (.inr (.inl ⟨hk.out, h, hR⟩)))))
    clear h
    go_wp2_with fail
    go_ret2
    exact J.out
  have e8 : (a.kind == 8) = false := by simp [hk8]
  replace hk8 := hid hk8
  by_cases hk9 : a.kind = 9
  · have e9 : (a.kind == 9) = true := by simp [hk9]
    have hk : Hid (a.kind = 9) := hid hk9
    clear hk9
    go_enter Tryz.func78, Tryz.ntmps78
    go_wp2_with fail
    refine (back_any base L yb v x ms a.to _ hT0.out.set hsh.out hts hbw0.out).mono ?_
    rintro e w' h
    obtain ⟨e', rfl⟩ := h.int
    have J := hid (retChg_do (key := key) (a := a) (cc := cc) b0 hT0.out h (fun _ => errIs_of (by rw [hk.out]; decide) (by rw [hk.out]; decide) (fun f => absurd (hk.out.symm.trans f) (by decide))) (fun h => chgNo_of (fun f => absurd (hk.out.symm.trans f) (by decide)) (fun f => absurd (hk.out.symm.trans f) (by decide)) (fun f => absurd (hk.out.symm.trans f) (by decide)) (fun f => absurd (hk.out.symm.trans f) (by decide)) (fun _ => h)) (fun y h hR => .inr (.inr (.inr (.inr ⟨hk.out, h, hR⟩)))))
    clear h
    go_wp2_with fail
    go_ret2
    exact J.out
  have e9 : (a.kind == 9) = false := by simp [hk9]
  replace hk9 := hid hk9
  go_enter Tryz.func78, Tryz.ntmps78
  go_wp2_with fail
  go_ret2
  exact ⟨0, 4, rfl, Only.of_below b0, .inl ⟨by omega, chgNo_of hk3.out (fun f => absurd f hk6.out) (fun f => absurd f hk7.out) (fun f => absurd f hk8.out) (fun f => absurd f hk9.out), errIs_of hk3.out hk4.out (fun f => absurd f hk5.out)⟩⟩
end Go.Proofs.YtnmcgmpmcliinaaGreat
