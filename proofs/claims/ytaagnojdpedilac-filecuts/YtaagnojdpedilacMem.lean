/-
  Stores in memory: rows of numbers, blocks, stores that came in, a store of one's own. Nothing here is trusted.
-/
import Derived.Test.YtaagnojdpedilacRows
import Derived.Test.YtaagnojdpedilacSto
import Derived.WalkKit
import Derived.Below
import Derived.Laws.Rows
import Derived.OpenShut
set_option linter.unusedVariables false
namespace Go.Proofs.Ytaagnojdpedilac
open Go.RowKit

theorem hid {p : Prop} (h : p) : Hid p := h
theorem below_alloc (w : World) (o : Obj) : Below w.heap.size w (w.alloc o) := (Below.refl _ _).alloc (Nat.le_refl _) o
theorem Below.tr {a b c : World} (h : Below a.heap.size a b) (k : Below b.heap.size b c) : Below a.heap.size a c := h.trans (k.mono h.size)
theorem cell_past_set (w : World) (a b : Addr) (v : Value) (h : b.block ≠ a.block) : (w.setCell a v).cell? b = w.cell? b := World.cell?_of_block (Below.heap_setCell w a v b.block h)
theorem frozen_past_set (w : World) (a b : Addr) (v : Value) (h : b.block ≠ a.block) : (w.setCell a v).frozen? b = w.frozen? b := World.frozen?_of_block (Below.heap_setCell w a v b.block h)
theorem cell_lt {w : World} {b off : Nat} {v : Value} (h : w.cell? ⟨b, off, none⟩ = some v) : b < w.heap.size := by
  rcases Nat.lt_or_ge b w.heap.size with h' | h'
  · exact h'
  · have e : w.cell? ⟨b, off, none⟩ = none := by simp [World.cell?, Array.getElem?_eq_none h']
    rw [e] at h
    simp at h

/-- block g is these cells, and all may be written -/
def CellsAt (w : World) (g : Nat) (cs : Array Value) (t : TypeId) : Prop := w.heap[g]? = some (.cells cs t (0, 0))
theorem CellsAt.cell {w : World} {g : Nat} {cs : Array Value} {t : TypeId} (h : CellsAt w g cs t) (k : Nat) : w.cell? ⟨g, k, none⟩ = cs[k]? := by unfold CellsAt at h; simp [World.cell?, h]
theorem CellsAt.frozen {w : World} {g : Nat} {cs : Array Value} {t : TypeId} (h : CellsAt w g cs t) (k : Nat) : w.frozen? ⟨g, k, none⟩ = false := by unfold CellsAt at h; simp [World.frozen?, h]
theorem CellsAt.set {w : World} {g : Nat} {cs : Array Value} {t : TypeId} (h : CellsAt w g cs t) (k : Nat) (v : Value) : CellsAt (w.setCell ⟨g, k, none⟩ v) g (cs.setIfInBounds k v) t := by unfold CellsAt at *; simp [World.setCell, Array.getElem?_modify, h]
theorem CellsAt.past {w : World} {g : Nat} {cs : Array Value} {t : TypeId} (h : CellsAt w g cs t) {a : Addr} (ha : g ≠ a.block) (v : Value) : CellsAt (w.setCell a v) g cs t := by
  unfold CellsAt at *; rw [Below.heap_setCell _ _ _ _ ha]; exact h
theorem CellsAt.lt {w : World} {g : Nat} {cs : Array Value} {t : TypeId} (h : CellsAt w g cs t) : g < w.heap.size := by
  unfold CellsAt at h
  rcases Nat.lt_or_ge g w.heap.size with h' | h'
  · exact h'
  · rw [Array.getElem?_eq_none h'] at h; cases h
theorem CellsAt.below {w w' : World} {g : Nat} {cs : Array Value} {t : TypeId} (h : CellsAt w g cs t) (hb : Below w.heap.size w w') : CellsAt w' g cs t := by
  have := h.lt; unfold CellsAt at *; rw [hb.block g this]; exact h
theorem cellsAt_alloc (w : World) (cs : Array Value) (t : TypeId) : CellsAt (w.alloc (.cells cs t)) w.heap.size cs t := heap_alloc_new w _

/-- all but block g is as it was -/
structure Kept (g : Nat) (w w' : World) : Prop where
  os : w'.os = w.os
  tape : w'.tape = w.tape
  output : w'.output = w.output
  size : w'.heap.size = w.heap.size
  block : ∀ k, k ≠ g → w'.heap[k]? = w.heap[k]?
theorem Kept.refl (g : Nat) (w : World) : Kept g w w := ⟨rfl, rfl, rfl, rfl, fun _ _ => rfl⟩
theorem Kept.trans {g : Nat} {a b c : World} (h : Kept g a b) (k : Kept g b c) : Kept g a c :=
  ⟨k.os.trans h.os, k.tape.trans h.tape, k.output.trans h.output, k.size.trans h.size, fun i hi => (k.block i hi).trans (h.block i hi)⟩
theorem Kept.cell {g : Nat} {w w' : World} (h : Kept g w w') {p : Addr} (hp : p.block ≠ g) : w'.cell? p = w.cell? p := World.cell?_of_block (w := w) (h.block p.block hp)
theorem Kept.frozen {g : Nat} {w w' : World} (h : Kept g w w') {p : Addr} (hp : p.block ≠ g) : w'.frozen? p = w.frozen? p := World.frozen?_of_block (w := w) (h.block p.block hp)
theorem Kept.setCell {g : Nat} {a w : World} (h : Kept g a w) {p : Addr} (hp : p.block = g) (u : Value) : Kept g a (w.setCell p u) :=
  h.trans ⟨rfl, rfl, rfl, by simp, fun k hk => Below.heap_setCell _ _ _ _ (by omega)⟩
theorem Kept.below {g B : Nat} {w w' : World} (h : Kept g w w') (hg : B ≤ g) : Below B w w' := ⟨h.os, h.tape, h.output, Nat.le_of_eq h.size.symm, fun k hk => h.block k (by omega)⟩

/-- WHAT A SLICE OF NUMBERS HOLDS: n of them, l; where there is one, it lies in a block of which Q holds. -/
def NumsAt (Q : Nat → Prop) (k : IntKind) (w : World) (a : Option Addr) (n : Nat) (l : List Int) : Prop :=
  l.length = n ∧ (∀ x ∈ l, (Lit.int k x).wf = true) ∧ (0 < n → ∃ b off, a = some ⟨b, off, none⟩ ∧ b < w.heap.size ∧ Q b ∧ ∀ i, i < n → w.cell? ⟨b, off + i, none⟩ = some (.int k (l.getD i 0)))

theorem NumsAt.below {Q : Nat → Prop} {k : IntKind} {w w' : World} {a : Option Addr} {n : Nat} {l : List Int} (h : NumsAt Q k w a n l) (hb : Below w.heap.size w w') : NumsAt Q k w' a n l := by
  refine ⟨h.1, h.2.1, fun hn => ?_⟩
  obtain ⟨b, off, rfl, hlt, hq, hc⟩ := h.2.2 hn
  exact ⟨b, off, rfl, Nat.lt_of_lt_of_le hlt hb.size, hq, fun i hi => (hb.cell (p := ⟨b, off + i, none⟩) hlt).trans (hc i hi)⟩
theorem NumsAt.weaken {Q R : Nat → Prop} {k : IntKind} {w : World} {a : Option Addr} {n : Nat} {l : List Int} (h : NumsAt Q k w a n l) (hq : ∀ b, b < w.heap.size → Q b → R b) : NumsAt R k w a n l := by
  refine ⟨h.1, h.2.1, fun hn => ?_⟩
  obtain ⟨b, off, rfl, hlt, q, hc⟩ := h.2.2 hn
  exact ⟨b, off, rfl, hlt, hq b hlt q, hc⟩
theorem NumsAt.kept {Q : Nat → Prop} {k : IntKind} {w w' : World} {a : Option Addr} {n : Nat} {l : List Int} {g : Nat} (h : NumsAt Q k w a n l) (hq : ∀ b, Q b → b ≠ g) (hk : Kept g w w') : NumsAt Q k w' a n l := by
  refine ⟨h.1, h.2.1, fun hn => ?_⟩
  obtain ⟨b, off, rfl, hlt, q, hc⟩ := h.2.2 hn
  exact ⟨b, off, rfl, by rw [hk.size]; exact hlt, q, fun i hi => (hk.cell (p := ⟨b, off + i, none⟩) (hq b q)).trans (hc i hi)⟩
theorem NumsAt.getD {Q : Nat → Prop} {k : IntKind} {w : World} {a : Option Addr} {n : Nat} {l : List Int} (h : NumsAt Q k w a n l) {i : Nat} (hi : i < n) : l.getD i 0 ∈ l := by
  have hl : i < l.length := by rw [h.1]; exact hi
  have e : l.getD i 0 = l[i] := by simp [List.getD, hl]
  rw [e]
  exact List.getElem_mem hl
theorem NumsAt.bd {Q : Nat → Prop} {w : World} {a : Option Addr} {n : Nat} {l : List Int} (h : NumsAt Q .i64 w a n l) {x : Int} (hx : x ∈ l) : -9223372036854775808 ≤ x ∧ x ≤ 9223372036854775807 := by
  have := bounds_i64 (h.2.1 x hx); omega
theorem numsAt_nil (Q : Nat → Prop) (k : IntKind) (w : World) (a : Option Addr) : NumsAt Q k w a 0 [] := ⟨rfl, by simp, fun h => absurd h (by omega)⟩

/-- a block in memory, four cells -/
structure BlkAt (Q : Nat → Prop) (w : World) (b off : Nat) (B : Blk) (ka : Option Addr) (kn kc : Nat) (ba : Option Addr) (bn bc : Nat) : Prop where
  c0 : w.cell? ⟨b, off, none⟩ = some (.int .i64 B.refs)
  c1 : w.cell? ⟨b, off + 1, none⟩ = some (.int .i64 B.level)
  c2 : w.cell? ⟨b, off + 2, none⟩ = some (.slice ka kn kc)
  c3 : w.cell? ⟨b, off + 3, none⟩ = some (.slice ba bn bc)
  kids : NumsAt Q .i64 w ka kn B.kids
  bytes : NumsAt Q .u8 w ba bn B.bytes
  refs : -9223372036854775808 ≤ B.refs ∧ B.refs ≤ 9223372036854775807
  level : -9223372036854775808 ≤ B.level ∧ B.level ≤ 9223372036854775807
  caps : kn ≤ kc ∧ bn ≤ bc

def Blocks (Q : Nat → Prop) (w : World) (b off n : Nat) (B : Nat → Blk) : Prop := ∀ i, i < n → ∃ ka kn kc ba bn bc, BlkAt Q w b (off + i * 4) (B i) ka kn kc ba bn bc

/-- a store in memory: n blocks behind a slice's address -/
def StoreAt (w : World) (a : Option Addr) (n : Nat) (B : Nat → Blk) : Prop :=
  0 < n → ∃ b off, a = some ⟨b, off, none⟩ ∧ b < w.heap.size ∧ Blocks (fun _ => True) w b off n B

theorem BlkAt.below {Q : Nat → Prop} {w w' : World} {b off : Nat} {B : Blk} {ka : Option Addr} {kn kc : Nat} {ba : Option Addr} {bn bc : Nat} (h : BlkAt Q w b off B ka kn kc ba bn bc) (hb : Below w.heap.size w w') : BlkAt Q w' b off B ka kn kc ba bn bc := by
  have hlt := cell_lt h.c0
  exact ⟨(hb.cell (p := ⟨b, off, none⟩) hlt).trans h.c0, (hb.cell (p := ⟨b, off + 1, none⟩) hlt).trans h.c1, (hb.cell (p := ⟨b, off + 2, none⟩) hlt).trans h.c2, (hb.cell (p := ⟨b, off + 3, none⟩) hlt).trans h.c3, h.kids.below hb, h.bytes.below hb, h.refs, h.level, h.caps⟩
theorem Blocks.below {Q : Nat → Prop} {w w' : World} {b off n : Nat} {B : Nat → Blk} (h : Blocks Q w b off n B) (hb : Below w.heap.size w w') : Blocks Q w' b off n B := by
  intro i hi
  obtain ⟨ka, kn, kc, ba, bn, bc, h⟩ := h i hi
  exact ⟨ka, kn, kc, ba, bn, bc, h.below hb⟩
theorem StoreAt.below {w w' : World} {a : Option Addr} {n : Nat} {B : Nat → Blk} (h : StoreAt w a n B) (hb : Below w.heap.size w w') : StoreAt w' a n B := by
  intro hn
  obtain ⟨b, off, rfl, hlt, hB⟩ := h hn
  exact ⟨b, off, rfl, Nat.lt_of_lt_of_le hlt hb.size, hB.below hb⟩

/-- a store of one's own: all of block g -/
structure Own (w : World) (g n : Nat) (B : Nat → Blk) : Prop where
  lt : g < w.heap.size
  blocks : Blocks (fun b => g < b) w g 0 n B
  free : ∀ i, i < n * 4 → w.frozen? ⟨g, i, none⟩ = false

theorem BlkAt.weaken {Q R : Nat → Prop} {w : World} {b off : Nat} {B : Blk} {ka : Option Addr} {kn kc : Nat} {ba : Option Addr} {bn bc : Nat} (h : BlkAt Q w b off B ka kn kc ba bn bc) (hq : ∀ b, b < w.heap.size → Q b → R b) : BlkAt R w b off B ka kn kc ba bn bc :=
  ⟨h.c0, h.c1, h.c2, h.c3, h.kids.weaken hq, h.bytes.weaken hq, h.refs, h.level, h.caps⟩
theorem Blocks.weaken {Q R : Nat → Prop} {w : World} {b off n : Nat} {B : Nat → Blk} (h : Blocks Q w b off n B) (hq : ∀ b, b < w.heap.size → Q b → R b) : Blocks R w b off n B := by
  intro i hi
  obtain ⟨ka, kn, kc, ba, bn, bc, h⟩ := h i hi
  exact ⟨ka, kn, kc, ba, bn, bc, h.weaken hq⟩
theorem BlkAt.kept {Q : Nat → Prop} {g : Nat} {w w' : World} {b off : Nat} {B : Blk} {ka : Option Addr} {kn kc : Nat} {ba : Option Addr} {bn bc : Nat} (h : BlkAt Q w b off B ka kn kc ba bn bc) (hg : b ≠ g) (hq : ∀ b, Q b → b ≠ g) (hk : Kept g w w') : BlkAt Q w' b off B ka kn kc ba bn bc :=
  ⟨(hk.cell (p := ⟨b, off, none⟩) hg).trans h.c0, (hk.cell (p := ⟨b, off + 1, none⟩) hg).trans h.c1, (hk.cell (p := ⟨b, off + 2, none⟩) hg).trans h.c2, (hk.cell (p := ⟨b, off + 3, none⟩) hg).trans h.c3, h.kids.kept hq hk, h.bytes.kept hq hk, h.refs, h.level, h.caps⟩
theorem Blocks.kept {Q : Nat → Prop} {g : Nat} {w w' : World} {b off n : Nat} {B : Nat → Blk} (h : Blocks Q w b off n B) (hg : b ≠ g) (hq : ∀ b, Q b → b ≠ g) (hk : Kept g w w') : Blocks Q w' b off n B := by
  intro i hi
  obtain ⟨ka, kn, kc, ba, bn, bc, h⟩ := h i hi
  exact ⟨ka, kn, kc, ba, bn, bc, h.kept hg hq hk⟩
theorem Own.store {w : World} {g n : Nat} {B : Nat → Blk} (h : Own w g n B) : StoreAt w (some ⟨g, 0, none⟩) n B := by
  intro hn
  refine ⟨g, 0, rfl, h.lt, fun i hi => ?_⟩
  obtain ⟨ka, kn, kc, ba, bn, bc, h⟩ := h.blocks i hi
  exact ⟨ka, kn, kc, ba, bn, bc, h.weaken fun _ _ _ => trivial⟩

theorem Own.below {w w' : World} {g n : Nat} {B : Nat → Blk} (h : Own w g n B) (hb : Below w.heap.size w w') : Own w' g n B :=
  ⟨Nat.lt_of_lt_of_le h.lt hb.size, h.blocks.below hb, fun i hi => (hb.frozen (p := ⟨g, i, none⟩) h.lt).trans (h.free i hi)⟩
theorem Own.cell {w : World} {g n : Nat} {B : Nat → Blk} (h : Own w g n B) {i : Nat} (hi : i < n) : ∃ ka kn kc ba bn bc, BlkAt (fun b => g < b) w g (i * 4) (B i) ka kn kc ba bn bc := by
  have := h.blocks i hi
  rwa [Nat.zero_add] at this

theorem setCell_hit {w : World} {g o : Nat} {u v : Value} (h : w.cell? ⟨g, o, none⟩ = some u) : (w.setCell ⟨g, o, none⟩ v).cell? ⟨g, o, none⟩ = some v := World.cell?_setCell_same _ _ _ h
theorem setCell_miss {w : World} {g o q : Nat} {v : Value} (h : o ≠ q) : (w.setCell ⟨g, o, none⟩ v).cell? ⟨g, q, none⟩ = w.cell? ⟨g, q, none⟩ := World.cell?_setCell_other w _ _ _ (fun e => h (congrArg Addr.off e))

/-- one block of one's own store is held otherwise -/
theorem Own.refs {w : World} {g n : Nat} {B : Nat → Blk} (h : Own w g n B) {i : Nat} (hi : i < n) (r : Int) (hr : -9223372036854775808 ≤ r ∧ r ≤ 9223372036854775807) :
    Own (w.setCell ⟨g, i * 4, none⟩ (.int .i64 r)) g n (upd B i { B i with refs := r }) := by
  have hk : Kept g w (w.setCell ⟨g, i * 4, none⟩ (.int .i64 r)) := Kept.setCell (g := g) (Kept.refl _ _) (p := ⟨g, i * 4, none⟩) rfl _
  refine ⟨by simpa using h.lt, fun j hj => ?_, fun j hj => by simpa using h.free j hj⟩
  obtain ⟨ka, kn, kc, ba, bn, bc, b⟩ := h.cell hj
  rw [Nat.zero_add]
  by_cases e : j = i
  · subst e
    refine ⟨ka, kn, kc, ba, bn, bc, ?_, ?_, ?_, ?_, ?_, ?_, ?_, ?_, b.caps⟩
    · rw [upd_same]; exact setCell_hit b.c0
    · rw [upd_same, setCell_miss (by omega)]; exact b.c1
    · rw [setCell_miss (by omega)]; exact b.c2
    · rw [setCell_miss (by omega)]; exact b.c3
    · rw [upd_same]; exact b.kids.kept (fun _ h => by omega) hk
    · rw [upd_same]; exact b.bytes.kept (fun _ h => by omega) hk
    · rw [upd_same]; exact hr
    · rw [upd_same]; exact b.level
  · rw [upd_other _ _ _ _ e]
    refine ⟨ka, kn, kc, ba, bn, bc, ?_, ?_, ?_, ?_, b.kids.kept (fun _ h => by omega) hk, b.bytes.kept (fun _ h => by omega) hk, b.refs, b.level, b.caps⟩
    · rw [setCell_miss (by omega)]; exact b.c0
    · rw [setCell_miss (by omega)]; exact b.c1
    · rw [setCell_miss (by omega)]; exact b.c2
    · rw [setCell_miss (by omega)]; exact b.c3

/-- four cells are written -/
abbrev put4 (w : World) (g o : Nat) (v0 v1 v2 v3 : Value) : World := (((w.setCell ⟨g, o, none⟩ v0).setCell ⟨g, o + 1, none⟩ v1).setCell ⟨g, o + 2, none⟩ v2).setCell ⟨g, o + 3, none⟩ v3
theorem kept_put4 (w : World) (g o : Nat) (v0 v1 v2 v3 : Value) : Kept g w (put4 w g o v0 v1 v2 v3) :=
  Kept.setCell (g := g) (Kept.setCell (g := g) (Kept.setCell (g := g) (Kept.setCell (g := g) (Kept.refl _ _) (p := ⟨g, o, none⟩) rfl _) (p := ⟨g, o + 1, none⟩) rfl _) (p := ⟨g, o + 2, none⟩) rfl _) (p := ⟨g, o + 3, none⟩) rfl _

/-- one block of one's own store is another one -/
theorem Own.put {w : World} {g n : Nat} {B : Nat → Blk} (h : Own w g n B) {i : Nat} (hi : i < n) (K : Blk) (ka : Option Addr) (kn kc : Nat) (ba : Option Addr) (bn bc : Nat)
    (hK : NumsAt (fun b => g < b) .i64 w ka kn K.kids) (hB : NumsAt (fun b => g < b) .u8 w ba bn K.bytes) (hr : -9223372036854775808 ≤ K.refs ∧ K.refs ≤ 9223372036854775807) (hl : -9223372036854775808 ≤ K.level ∧ K.level ≤ 9223372036854775807) (hc : kn ≤ kc ∧ bn ≤ bc) :
    Own (put4 w g (i * 4) (.int .i64 K.refs) (.int .i64 K.level) (.slice ka kn kc) (.slice ba bn bc)) g n (upd B i K) := by
  have hk := kept_put4 w g (i * 4) (.int .i64 K.refs) (.int .i64 K.level) (.slice ka kn kc) (.slice ba bn bc)
  refine ⟨by rw [hk.size]; exact h.lt, fun j hj => ?_, fun j hj => by simpa using h.free j hj⟩
  obtain ⟨ka', kn', kc', ba', bn', bc', b⟩ := h.cell hj
  rw [Nat.zero_add]
  by_cases e : j = i
  · subst e
    rw [upd_same]
    refine ⟨ka, kn, kc, ba, bn, bc, ?_, ?_, ?_, ?_, hK.kept (fun _ h => by omega) hk, hB.kept (fun _ h => by omega) hk, hr, hl, hc⟩
    · rw [setCell_miss (by omega), setCell_miss (by omega), setCell_miss (by omega)]; exact setCell_hit b.c0
    · rw [setCell_miss (by omega), setCell_miss (by omega)]; exact setCell_hit (u := .int .i64 (B j).level) (by rw [setCell_miss (by omega)]; exact b.c1)
    · rw [setCell_miss (by omega)]; exact setCell_hit (u := .slice ka' kn' kc') (by rw [setCell_miss (by omega), setCell_miss (by omega)]; exact b.c2)
    · exact setCell_hit (u := .slice ba' bn' bc') (by rw [setCell_miss (by omega), setCell_miss (by omega), setCell_miss (by omega)]; exact b.c3)
  · rw [upd_other _ _ _ _ e]
    refine ⟨ka', kn', kc', ba', bn', bc', ?_, ?_, ?_, ?_, b.kids.kept (fun _ h => by omega) hk, b.bytes.kept (fun _ h => by omega) hk, b.refs, b.level, b.caps⟩
    · rw [setCell_miss (by omega), setCell_miss (by omega), setCell_miss (by omega), setCell_miss (by omega)]; exact b.c0
    · rw [setCell_miss (by omega), setCell_miss (by omega), setCell_miss (by omega), setCell_miss (by omega)]; exact b.c1
    · rw [setCell_miss (by omega), setCell_miss (by omega), setCell_miss (by omega), setCell_miss (by omega)]; exact b.c2
    · rw [setCell_miss (by omega), setCell_miss (by omega), setCell_miss (by omega), setCell_miss (by omega)]; exact b.c3
theorem Blocks.congr {Q : Nat → Prop} {w : World} {b off n : Nat} {B C : Nat → Blk} (h : Blocks Q w b off n B) (e : ∀ i, i < n → B i = C i) : Blocks Q w b off n C := by
  intro i hi
  rw [← e i hi]
  exact h i hi
theorem Own.congr {w : World} {g n : Nat} {B C : Nat → Blk} (h : Own w g n B) (e : ∀ i, i < n → B i = C i) : Own w g n C := ⟨h.lt, h.blocks.congr e, h.free⟩

end Go.Proofs.Ytaagnojdpedilac
