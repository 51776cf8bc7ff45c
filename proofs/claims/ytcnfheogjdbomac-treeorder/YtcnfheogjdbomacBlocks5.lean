/-
  Contracts of blocks.Drop and of the function in it that calls itself. Nothing here is trusted.
-/
import Derived.Test.YtcnfheogjdbomacBlocks4
set_option linter.unusedVariables false
namespace Go.Proofs.Ytcnfheogjdbomac
open Go.RowKit

theorem at_own (p : Addr) (g n c i : Nat) (w : World) (hn : n ≤ 400) (hs : w.cell? p = some (.slice (some ⟨g, 0, none⟩) n c)) (hi : i < n) :
    Calls Try.prog 33 #[.pointer (some p), .int .i64 ((i : Int) + 1)] w fun e w' => e = .returned (.pointer (some ⟨g, i * 4, none⟩)) ∧ w' = w := by
  have := at_ptr p g 0 n c i w hn hs hi
  rwa [Nat.zero_add] at this

theorem upd_upd (B : Nat → Blk) (i : Nat) (b c : Blk) : upd (upd B i b) i c = upd B i c := by
  funext j; unfold upd; split <;> rfl

theorem fell_zero {n : Nat} {B : Nat → Blk} (h : ∀ i, i < n → Form n B (B i)) : Fell n B B [0] := (fell_nil h).skip

/-- what the closure leaves -/
def Less (w : World) (g n : Nat) (B : Nat → Blk) (a : Int) (T : List Int) (w' : World) : Prop := Kept g w w' ∧ ∃ C, Own w' g n C ∧ RightT n C T ∧ Fell n B C [a]

theorem OwnPtr.ptr {w : World} {p : Addr} {g n : Nat} {B : Nat → Blk} (h : OwnPtr w p g n B) : PtrAt w p (some ⟨g, 0, none⟩) n n B := ⟨h.lt, h.cell, h.own.store⟩
theorem OwnPtr.below {w w' : World} {p : Addr} {g n : Nat} {B : Nat → Blk} (h : OwnPtr w p g n B) (hb : Below w.heap.size w w') : OwnPtr w' p g n B :=
  ⟨Nat.lt_of_lt_of_le h.lt hb.size, h.ne, (hb.cell h.lt).trans h.cell, h.own.below hb⟩
theorem OwnPtr.kept {w w' : World} {p : Addr} {g n : Nat} {B C : Nat → Blk} (h : OwnPtr w p g n B) (hk : Kept g w w') (ho : Own w' g n C) : OwnPtr w' p g n C :=
  ⟨by rw [hk.size]; exact h.lt, h.ne, (hk.cell h.ne).trans h.cell, ho⟩

/-- what was there but block g is as it was -/
structure Out (g : Nat) (w w' : World) : Prop where
  os : w'.os = w.os
  tape : w'.tape = w.tape
  output : w'.output = w.output
  size : w.heap.size ≤ w'.heap.size
  block : ∀ k, k < w.heap.size → k ≠ g → w'.heap[k]? = w.heap[k]?
theorem Out.of_below {g : Nat} {w w' : World} (h : Below w.heap.size w w') : Out g w w' := ⟨h.os, h.tape, h.output, h.size, fun k hk _ => h.block k hk⟩
theorem Out.of_kept {g : Nat} {w w' : World} (h : Kept g w w') : Out g w w' := ⟨h.os, h.tape, h.output, Nat.le_of_eq h.size.symm, fun k _ hk => h.block k hk⟩
theorem Out.trans {g : Nat} {a b c : World} (h : Out g a b) (k : Out g b c) : Out g a c :=
  ⟨k.os.trans h.os, k.tape.trans h.tape, k.output.trans h.output, Nat.le_trans h.size k.size, fun i hi hg => (k.block i (Nat.lt_of_lt_of_le hi h.size) hg).trans (h.block i hi hg)⟩
theorem Out.below {g B : Nat} {w w' : World} (h : Out g w w') (hB : B ≤ g) (hs : B ≤ w.heap.size) : Below B w w' := ⟨h.os, h.tape, h.output, h.size, fun k hk => h.block k (by omega) (by omega)⟩
theorem Out.cell {g : Nat} {w w' : World} (h : Out g w w') {p : Addr} (hp : p.block < w.heap.size) (hg : p.block ≠ g) : w'.cell? p = w.cell? p := World.cell?_of_block (w := w) (h.block p.block hp hg)

end Go.Proofs.Ytcnfheogjdbomac
