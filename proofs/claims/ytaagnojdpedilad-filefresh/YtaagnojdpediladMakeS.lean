/-
  The contract of store.Make. Nothing here is trusted.
-/
import Derived.Test.YtaagnojdpediladMakeB
set_option linter.unusedVariables false
namespace Go.Proofs.Ytaagnojdpedilad
open Go.RowKit

/-- what the closure of store.Make finds: the block, the place for the address -/
structure MakeEnv (w : World) (lim bb ab : Nat) (K : Blk) (ka : Option Addr) (kn kc : Nat) (ba : Option Addr) (bn bc : Nat) : Prop where
  cb : CellsAt w bb #[.int .i64 K.refs, .int .i64 K.level, .slice ka kn kc, .slice ba bn bc] 41
  ca : CellsAt w ab #[.int .i64 0] 3
  kids : NumsAt (fun b => b < lim) .i64 w ka kn K.kids
  bytes : NumsAt (fun b => b < lim) .u8 w ba bn K.bytes
  level : -9223372036854775808 ≤ K.level ∧ K.level ≤ 9223372036854775807
  caps : kn ≤ kc ∧ bn ≤ bc
  ne : bb ≠ ab
  la : ab < lim
  lb : bb < lim
theorem MakeEnv.below {w w' : World} {lim bb ab : Nat} {K : Blk} {ka : Option Addr} {kn kc : Nat} {ba : Option Addr} {bn bc : Nat} (h : MakeEnv w lim bb ab K ka kn kc ba bn bc) (b : Below w.heap.size w w') : MakeEnv w' lim bb ab K ka kn kc ba bn bc :=
  ⟨h.cb.below b, h.ca.below b, h.kids.below b, h.bytes.below b, h.level, h.caps, h.ne, h.la, h.lb⟩

/-- what was there but two blocks is as it was -/
structure Out2 (g h : Nat) (w w' : World) : Prop where
  os : w'.os = w.os
  tape : w'.tape = w.tape
  output : w'.output = w.output
  size : w.heap.size ≤ w'.heap.size
  block : ∀ k, k < w.heap.size → k ≠ g → k ≠ h → w'.heap[k]? = w.heap[k]?
theorem Out2.of {g h : Nat} {a b c : World} (x : Out g a b) (y : Kept h b c) : Out2 g h a c :=
  ⟨y.os.trans x.os, y.tape.trans x.tape, y.output.trans x.output, by rw [y.size]; exact x.size, fun k hk hg hh => (y.block k hh).trans (x.block k hk hg)⟩
theorem Out.setNew {g : Nat} {w w' : World} (h : Out g w w') {a : Addr} (ha : w.heap.size ≤ a.block) {v : Value} : Out g w (w'.setCell a v) :=
  ⟨h.os, h.tape, h.output, by simpa using h.size, fun k hk hg => by rw [Below.heap_setCell _ _ _ _ (by omega)]; exact h.block k hk hg⟩

/-- what the closure of store.Make answers, and leaves -/
def DidMake (e : Ending) (p : Addr) (g n : Nat) (B : Nat → Blk) (K : Blk) (ab : Nat) (w : World) : Prop :=
  (∃ e' : Int, e = .returned (.int .i64 e') ∧ e' ≠ 0 ∧ ¬ Makeable n B K ∧ CellsAt w ab #[.int .i64 0] 3) ∨
  (∃ i : Nat, i < n ∧ e = .returned (.int .i64 0) ∧ Makeable n B K ∧ (B i).refs = 0 ∧ (∀ k, k < i → (B k).refs ≠ 0) ∧ OwnPtr w p g n (made B K i) ∧ CellsAt w ab #[.int .i64 ((i : Int) + 1)] 3)

/-- what store.change answers to the closure of store.Make -/
def RetMake (base : Nat) (e : Ending) (w : World) (n : Nat) (B : Nat → Blk) (K : Blk) (ab : Nat) : Prop :=
  (∃ e', e = .returned (.tuple #[.agg #[.slice none 0 0], .int .i64 e']) ∧ e' ≠ 0 ∧ ¬ Makeable n B K ∧ CellsAt w ab #[.int .i64 0] 3) ∨
  (∃ i : Nat, i < n ∧ Makeable n B K ∧ (B i).refs = 0 ∧ (∀ k, k < i → (B k).refs ≠ 0) ∧ RetS base e w n (made B K i) ∧ CellsAt w ab #[.int .i64 ((i : Int) + 1)] 3)

theorem results_cell_tmps {fn : Func} {p u v : Tmp} {ty : TypeId} (h : fn.results = #[.cell p ty, .tmp u, .tmp v]) (tmps : Array Value) (P : Program) (w : World) :
    (results fn tmps).run P w =
      ((asAddr (tmps.getD p undef)).run P w).andThen fun a w₁ => ((loadVar ty a).run P w₁).andThen fun x w₂ => .ok (.tuple #[x, tmps.getD u undef, tmps.getD v undef]) w₂ := by
  simp only [results, h]
  simp [Sem.run_bind, Result.andThen]

/-- what store.Make answers -/
def RetMade (base : Nat) (e : Ending) (w : World) (n : Nat) (B : Nat → Blk) (K : Blk) : Prop :=
  (∃ e', e = .returned (.tuple #[.agg #[.slice none 0 0], .int .i64 0, .int .i64 e']) ∧ e' ≠ 0 ∧ ¬ Makeable n B K) ∨
  (∃ i : Nat, i < n ∧ Makeable n B K ∧ (B i).refs = 0 ∧ (∀ k, k < i → (B k).refs ≠ 0) ∧ ∃ g c, e = .returned (.tuple #[.agg #[.slice (some ⟨g, 0, none⟩) n c], .int .i64 ((i : Int) + 1), .int .i64 0]) ∧ base ≤ g ∧ g < w.heap.size ∧ Blocks (fun b => base ≤ b) w g 0 n (made B K i))

theorem cellsAt_alloc4 (w : World) (o q r : Obj) (cs : Array Value) (t : TypeId) : CellsAt ((((w.alloc o).alloc q).alloc r).alloc (.cells cs t)) (w.heap.size + 3) cs t := by
  have := cellsAt_alloc3 (w.alloc o) q r cs t
  simpa [Nat.add_assoc, Nat.add_comm, Nat.add_left_comm] using this

end Go.Proofs.Ytaagnojdpedilad
