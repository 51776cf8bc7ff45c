/-
  What a file that came in is. Nothing here is trusted.
-/
import Derived.Test.YthbcehgblcappacOpenT
set_option linter.unusedVariables false
namespace Go.Proofs.Ythbcehgblcappac
open Go.ChangeShapes Go.WideShapes Go.RowKit Go.Deep

section
variable {H : Type} {enc : TypeId × Value → H} {W : World}

set_option maxRecDepth 100000 in
theorem file_open {r : Reach} {b0 : Nat} {v : Value} {d : DataW H} {p : List MemPlace} (hv : Value.okWide Try.prog W r b0 44 v) (h : DataW.Trod enc Try.prog W 0 (fun _ => true) true 44 v d p) :
    ∃ fr fs : Int, v = .agg #[.int .i64 fr, .int .i64 fs] := by
  obtain ⟨cs, rfl, hsz⟩ := okWide_struct Try.underlying44 hv
  have hsz2 : cs.size = 2 := hsz.trans (by kernel_rfl)
  obtain ⟨l⟩ := cs
  match l, hsz2 with
  | [c0, c1], _ =>
    obtain ⟨fuel, hf⟩ := h
    obtain ⟨y0, y1, n, _, _, h0, h1⟩ := trod_struct2 Try.underlying44 hf
    have e1 : Try.prog.cellsOf 3 = 1 := by kernel_rfl
    simp [Value.cells, e1] at h0 h1
    obtain ⟨r, hr, _, _⟩ := DataW.trod_int Try.underlying3 h0
    obtain ⟨s, hs, _, _⟩ := DataW.trod_int Try.underlying3 h1
    simp at hr hs
    subst hr hs
    exact ⟨r, s, rfl⟩
end

end Go.Proofs.Ythbcehgblcappac
