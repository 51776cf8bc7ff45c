/-
  The contract of blocks.Reach and store.Reach. Nothing here is trusted.
-/
import Derived.Test.YtaagnojdpedilacReach1
import Derived.Test.YtaagnojdpedilacIter
import Derived.Maps.Views
set_option linter.unusedVariables false
namespace Go.Proofs.Ytaagnojdpedilac
open Go.RowKit Go.Maps

/-- rising -/
def Rising (L : List Int) : Prop := L.Pairwise (fun x y => x < y)

theorem sorted_of (V : List Int) (hn : V.Nodup) : Rising (V.mergeSort leI) ∧ ∀ x, x ∈ V.mergeSort leI ↔ x ∈ V := by
  have tr : ∀ a b c : Int, leI a b = true → leI b c = true → leI a c = true := fun a b c h1 h2 => by simp only [leI, decide_eq_true_eq] at *; exact Int.le_trans h1 h2
  have to : ∀ a b : Int, (leI a b || leI b a) = true := fun a b => by simp only [leI, Bool.or_eq_true, decide_eq_true_eq]; exact Int.le_total a b
  have h1 := List.pairwise_mergeSort tr to V
  have h2 : (V.mergeSort leI).Nodup := (List.mergeSort_perm V leI).nodup_iff.2 hn
  refine ⟨?_, fun x => (List.mergeSort_perm V leI).mem_iff⟩
  unfold Rising
  have h3 := List.Pairwise.and h1 h2
  refine h3.imp ?_
  intro a b h
  have ha := h.1
  simp only [leI, decide_eq_true_eq] at ha
  have := h.2
  omega

/-- what Reach answers: a list in new memory -/
def ListAt (base : Nat) (w : World) (v : Value) (L : List Int) : Prop := w.ownsRow base 3 1 v L.length (L.map (Value.int .i64)) ∧ ∀ x ∈ L, (Lit.int .i64 x).wf = true

/-- what Reach refuses not -/
def Reachable (n : Nat) (B : Nat → Blk) (l : List Int) : Prop := Right n B ∧ RootsOk n B l

def RetR (base : Nat) (e : Ending) (w : World) (n : Nat) (B : Nat → Blk) (l : List Int) : Prop :=
  (∃ e', e = .returned (.tuple #[.slice none 0 0, .int .i64 e']) ∧ e' ≠ 0 ∧ ¬ Reachable n B l) ∨
  (Reachable n B l ∧ ∃ v L, e = .returned (.tuple #[v, .int .i64 0]) ∧ ListAt base w v L ∧ Rising L ∧ ∀ x, x ∈ L ↔ Clo B l x)

theorem size_of_perm {D : DataW Unit} {V : List Int} (hD : IsMap D) (h : V.Perm (intKeys D)) : Maps.size D = V.length := by
  obtain ⟨es, rfl⟩ := hD
  rw [h.length_eq]
  simp [intKeys, Maps.size]

theorem seen_new (w : World) : Seen (w.alloc (.map #[] 0)) w.heap.size [] :=
  ⟨.map [], World.ownsMap_made _ _ _ _, ⟨[], rfl⟩, List.nodup_nil, fun x => by simp [has], fun x hx => by simp at hx⟩

end Go.Proofs.Ytaagnojdpedilac
