/-
  What is reached from roots; the map of what was seen. Nothing here is trusted.
-/
import Derived.Test.YtaagnojdpedilacStored
import Derived.Maps.Own
import Derived.Maps.OwnOps
import Derived.Lib.SlKeysI
set_option linter.unusedVariables false
namespace Go.Proofs.Ytaagnojdpedilac
open Go.RowKit Go.Maps

/-- reached: in each set that holds the roots, and with a block its kids -/
def Clo (B : Nat → Blk) (l : List Int) (x : Int) : Prop :=
  ∀ S : Int → Prop, (∀ r ∈ l, r ≠ 0 → S r) → (∀ y, S y → ∀ k ∈ (B (y - 1).toNat).kids, k ≠ 0 → S k) → S x
theorem Clo.root {B : Nat → Blk} {l : List Int} {x : Int} (h : x ∈ l) (h0 : x ≠ 0) : Clo B l x := fun S h1 _ => h1 x h h0
theorem Clo.kid {B : Nat → Blk} {l : List Int} {x k : Int} (h : Clo B l x) (hk : k ∈ (B (x - 1).toNat).kids) (h0 : k ≠ 0) : Clo B l k := fun S h1 h2 => h2 x (h S h1 h2) k hk h0
theorem Clo.mono {B : Nat → Blk} {l m : List Int} {x : Int} (h : Clo B l x) (hs : ∀ r ∈ l, r ≠ 0 → Clo B m r) : Clo B m x :=
  h _ hs fun y hy k hk h0 => hy.kid hk h0
theorem Clo.nil {B : Nat → Blk} {x : Int} (h : Clo B [] x) : False := h (fun _ => False) (by simp) (by simp)

/-- roots are 0 or there -/
def RootsOk (n : Nat) (B : Nat → Blk) (l : List Int) : Prop := ∀ r ∈ l, r = 0 ∨ There n B r
theorem Clo.there {n : Nat} {B : Nat → Blk} {l : List Int} {x : Int} (hR : Right n B) (hl : RootsOk n B l) (h : Clo B l x) : There n B x := by
  refine h (There n B) (fun r hr h0 => (hl r hr).resolve_left h0) fun y hy k hk h0 => ?_
  rcases (hR.one _ (ix hy.1 hy.2.1).1).kids k hk with h | ⟨h, _⟩
  · exact absurd h h0
  · exact h

theorem pigeon : ∀ (n : Nat) (V : List Int), V.Nodup → (∀ x ∈ V, 1 ≤ x ∧ x ≤ n) → V.length ≤ n
  | 0, V, _, h => by
    cases V with
    | nil => simp
    | cons x r => have := h x (by simp); omega
  | n + 1, V, hn, h => by
    by_cases hm : ((n : Int) + 1) ∈ V
    · have h1 := pigeon n (V.erase ((n : Int) + 1)) (hn.erase _) (fun x hx => by
        have hx' := (hn.mem_erase_iff).1 hx
        have := h x hx'.2
        have := hx'.1
        omega)
      have h2 := List.length_erase_of_mem hm
      have h3 : 0 < V.length := List.length_pos_of_mem hm
      omega
    · have := pigeon n V hn (fun x hx => by
        have h1 := h x hx
        have : x ≠ (n : Int) + 1 := fun e => hm (e ▸ hx)
        omega)
      omega

theorem law3 : Keyed Try.prog 3 := int_keyed Try.underlying3
theorem zeroInt (w : World) : (zeroValue 3).run Try.prog w = .ok (.int .i64 0) w := by kernel_rfl

/-- the map of what was seen: V, each once -/
def Seen (w : World) (b : Nat) (V : List Int) : Prop :=
  ∃ D : DataW Unit, w.ownsMap Try.prog 3 (plainElem Try.prog 3) b V.length D ∧ IsMap D ∧ V.Nodup ∧ (∀ x, x ∈ V ↔ has D (.int .i64 x) = true) ∧ ∀ x ∈ V, ∀ z, D.atKey (.int .i64 x) z = .lit (.int .i64 1)

theorem Seen.out {w w' : World} {b : Nat} {V : List Int} (h : Seen w b V) (hb : w'.heap[b]? = w.heap[b]?) : Seen w' b V := by
  obtain ⟨D, ⟨es, clock, h1, h2, h3, h4⟩, r⟩ := h
  exact ⟨D, ⟨es, clock, hb.trans h1, h2, h3, h4⟩, r⟩

theorem isKeyLit_int (x : Int) : WideAt.IsKeyLit (.int .i64 x) := by first | exact ⟨_, _, rfl⟩ | trivial | (unfold WideAt.IsKeyLit; simp)

theorem seen_put {D : DataW Unit} {V : List Int} {x : Int} (hD : IsMap D) (hn : V.Nodup) (hx : x ∉ V) (hm : ∀ x, x ∈ V ↔ has D (.int .i64 x) = true) (ha : ∀ x ∈ V, ∀ z, D.atKey (.int .i64 x) z = .lit (.int .i64 1)) :
    IsMap (D.put (.int .i64 x) (.lit (.int .i64 1))) ∧ (V ++ [x]).Nodup ∧ (∀ y, y ∈ V ++ [x] ↔ has (D.put (.int .i64 x) (.lit (.int .i64 1))) (.int .i64 y) = true) ∧ ∀ y ∈ V ++ [x], ∀ z, (D.put (.int .i64 x) (.lit (.int .i64 1))).atKey (.int .i64 y) z = .lit (.int .i64 1) := by
  refine ⟨hD.put _ _, List.nodup_append.2 ⟨hn, by simp, fun a ha b hb => by simp at hb; subst hb; exact fun e => hx (e ▸ ha)⟩, fun y => ?_, fun y hy z => ?_⟩
  · by_cases e : y = x
    · subst e; simp [has_put_same hD (isKeyLit_int y)]
    · rw [has_put_other (by simpa using e)]
      simp [hm y, e]
  · by_cases e : y = x
    · subst e; rw [atKey_put_same hD (isKeyLit_int y)]
    · rw [atKey_put_other (by simpa using e)]
      exact ha y (by simpa [e] using hy) z
end Go.Proofs.Ytaagnojdpedilac
