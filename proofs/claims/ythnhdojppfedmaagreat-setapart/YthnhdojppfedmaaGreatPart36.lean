/-
  SnapG in one text. Nothing here is trusted.
-/
import Derived.Test.YthnhdojppfedmaaGreatPart34
import Derived.Test.YthnhdojppfedmaaGreatPart35
import Derived.Test.YthnhdojppfedmaaGreatPart12
set_option linter.unusedVariables false
namespace Go.Proofs.YthnhdojppfedmaaGreat
open Go.RowKit

theorem RetDid.uni2 {w w' : World} {n : Nat} {B : Nat → Blk} {key : Int} {x : SetE} {a : AskE} {cc : Int} {e : Ending} (h : RetDid w n B key x a cc e w') : ∃ (ga : Option Addr) (gn gc : Nat) (u : SetV) (e' : Int), e = .returned (.tuple #[.agg #[.slice ga gn gc], .agg #[.string u.name, .slice u.fa u.fn u.fc, .slice u.sa u.sn u.sc], .int .i64 e']) ∧ Below w.heap.size w w' ∧ (e' ≠ 0 → SetOk n B key x → HeldR n B (rootsX x) → ChgNo n B key x a) ∧
    (e' = 0 → gn = n ∧ gc = n ∧ ∃ (g : Nat) (D : Nat → Blk) (y : SetE), ga = some ⟨g, 0, none⟩ ∧ SetOk n B key x ∧ HeldR n B (rootsX x) ∧ Did n B key x a cc D y ∧ w.heap.size ≤ g ∧ Own w' g n D ∧ SetAt (fun b => w.heap.size ≤ b) w' u y) := by
  obtain ⟨b, ⟨e', rfl, he, hno⟩ | ⟨g, D, v, y, rfl, hx, hh, hd, ⟨hg, hO⟩, hS⟩⟩ := h
  · exact ⟨none, 0, 0, ⟨ByteArray.mk #[], none, 0, 0, none, 0, 0⟩, e', rfl, b, fun _ => hno, fun h => absurd h he⟩
  · exact ⟨_, n, n, v, 0, rfl, b, fun h => absurd rfl h, fun _ => ⟨rfl, rfl, g, D, y, rfl, hx, hh, hd, hg, hO, hS⟩⟩
theorem left_le (a : AskE) : leftOf a ≤ 48 ∧ moreOf a ≤ 48 ∧ 0 ≤ moreOf a := by
  unfold leftOf moreOf
  split <;> omega
/-- a store and a set in two boxes, in memory that is none of them -/
structure TB (wr : World) (b11 b12 n g : Nat) (C : Nat → Blk) (u : SetV) (y : SetE) : Prop where
  s : CellsAt wr b11 #[.slice (some ⟨g, 0, none⟩) n n] 24
  x : CellsAt wr b12 #[.string u.name, .slice u.fa u.fn u.fc, .slice u.sa u.sn u.sc] 28
  ne : b11 ≠ b12 ∧ g ≠ b11 ∧ g ≠ b12
  gl : g < wr.heap.size
  blocks : Blocks (fun b => b ≠ b11 ∧ b ≠ b12) wr g 0 n C
  set : SetAt (fun b => b ≠ b11 ∧ b ≠ b12) wr u y
theorem TB.store {wr : World} {b11 b12 n g : Nat} {C : Nat → Blk} {u : SetV} {y : SetE} (h : TB wr b11 b12 n g C u y) : StoreAt wr (some ⟨g, 0, none⟩) n C := store_of h.gl h.blocks
theorem TB.below {wr w' : World} {b11 b12 n g : Nat} {C : Nat → Blk} {u : SetV} {y : SetE} (h : TB wr b11 b12 n g C u y) (b : Below wr.heap.size wr w') : TB w' b11 b12 n g C u y := ⟨h.s.below b, h.x.below b, h.ne, Nat.lt_of_lt_of_le h.gl b.size, h.blocks.below b, h.set.below b⟩
/-- another store and set are laid into the boxes -/
theorem TB.put {wr w' : World} {b11 b12 n g g' : Nat} {C D : Nat → Blk} {u u' : SetV} {y z : SetE} (h : TB wr b11 b12 n g C u y) (b : Below wr.heap.size wr w') (hg : wr.heap.size ≤ g') (hO : Own w' g' n D) (hS : SetAt (fun b => wr.heap.size ≤ b) w' u' z) :
    TB ((((w'.setCell ⟨b11, 0, none⟩ (.slice (some ⟨g', 0, none⟩) n n)).setCell ⟨b12, 0, none⟩ (.string u'.name)).setCell ⟨b12, 1, none⟩ (.slice u'.fa u'.fn u'.fc)).setCell ⟨b12, 2, none⟩ (.slice u'.sa u'.sn u'.sc)) b11 b12 n g' D u' z ∧ Only (fun k => k = b11 ∨ k = b12) w' ((((w'.setCell ⟨b11, 0, none⟩ (.slice (some ⟨g', 0, none⟩) n n)).setCell ⟨b12, 0, none⟩ (.string u'.name)).setCell ⟨b12, 1, none⟩ (.slice u'.fa u'.fn u'.fc)).setCell ⟨b12, 2, none⟩ (.slice u'.sa u'.sn u'.sc)) := by
  have l1 := h.s.lt
  have l3 := h.x.lt
  have k1 := kept_putS w' b11 (.slice (some ⟨g', 0, none⟩) n n)
  have k2 := kept_putX (w'.setCell ⟨b11, 0, none⟩ (.slice (some ⟨g', 0, none⟩) n n)) b12 u'
  have o1 := Only.of_kept (M := fun k => k = b11 ∨ k = b12) k1 (.inl rfl)
  have o2 := Only.of_kept (M := fun k => k = b11 ∨ k = b12) k2 (.inr rfl)
  have on := o1.trans o2
  have hne := h.ne.1
  have hbl : Blocks (fun b => (b ≠ b11 ∧ b ≠ b12)) w' g' 0 n D := hO.blocks.weaken (fun b _ q => ⟨by omega, by omega⟩)
  refine ⟨⟨(Only.of_kept (M := fun k => k = b12) k2 rfl).cells (cells_putS (h.s.below b)) hne, cells_putX ((Only.of_kept (M := fun k => k = b11) k1 rfl).cells (h.x.below b) hne.symm), ⟨hne, by omega, by omega⟩, Nat.lt_of_lt_of_le hO.lt on.size, on.blocks hbl (by omega) hO.lt (fun k q e => by omega), ?_⟩, on⟩
  have := (hS.kept (fun k q => by omega) k1).kept (fun k q => by omega) k2
  exact SetAt.weaken (hS.weaken (R := fun b => b ≠ b11 ∧ b ≠ b12) (fun k _ q => ⟨by omega, by omega⟩) |>.kept (fun k q => q.1) k1 |>.kept (fun k q => q.2) k2) (fun _ _ q => q)
/-- what SetSnap's loop keeps -/
structure SI (W wr : World) (sa : Option Addr) (n sc : Nat) (v : SetV) (b11 b12 : Nat) (fa : Option Addr) (fn : Nat) (l : List Ent) : Prop where
  ab : AB W wr sa n sc v
  files : EntsAt (fun b => b ≠ b11 ∧ b ≠ b12) wr fa fn l
  new : W.heap.size + 2 ≤ b11 ∧ W.heap.size + 2 ≤ b12
theorem SI.below {W wr w' : World} {sa : Option Addr} {n sc : Nat} {v : SetV} {b11 b12 : Nat} {fa : Option Addr} {fn : Nat} {l : List Ent} (h : SI W wr sa n sc v b11 b12 fa fn l) (b : Below wr.heap.size wr w') : SI W w' sa n sc v b11 b12 fa fn l := ⟨h.ab.below b, h.files.below b, h.new⟩
theorem SI.only {W wr w' : World} {sa : Option Addr} {n sc : Nat} {v : SetV} {b11 b12 : Nat} {fa : Option Addr} {fn : Nat} {l : List Ent} (h : SI W wr sa n sc v b11 b12 fa fn l) (on : Only (fun k => k = b11 ∨ k = b12) wr w') : SI W w' sa n sc v b11 b12 fa fn l := by
  have hn := h.new
  have hb := h.ab.bel.size
  exact ⟨⟨h.ab.bel.trans (on.below (fun k m => by omega) hb), on.cells h.ab.s (by omega), on.cells h.ab.x (by omega)⟩, on.ents h.files (fun k q m => by omega), hn⟩

theorem AsksAt.ask {w : World} {b off n : Nat} {l : List AskE} (h : AsksAt w (some ⟨b, off, none⟩) n l) {i : Nat} (hi : i < n) : ∃ ba bn bc, AskAt w b (off + i * 7) (l.getD i AskE.zero) ba bn bc := by
  obtain ⟨b', off', e, _, hc⟩ := h.2 (by omega)
  simp only [Option.some.injEq, Addr.mk.injEq, and_true] at e
  obtain ⟨rfl, rfl⟩ := e
  exact hc i hi
end Go.Proofs.YthnhdojppfedmaaGreat
