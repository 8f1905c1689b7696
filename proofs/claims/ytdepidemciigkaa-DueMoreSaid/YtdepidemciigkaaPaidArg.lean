/-
  A Paid that came in.
-/
import Derived.Test.YtdepidemciigkaaPaid
import Derived.Test.YtdepidemciigkaaArgNat
import Derived.Test.YtdepidemciigkaaShapeArg
namespace Go.Proofs.Ytdepidemciigkaa
open Go Go.RowKit Go.ChangeShapes Go.WideShapes Go.Deep Go.Joins
set_option linter.unusedVariables false

section
variable {H : Type} {enc : TypeId × Value → H} {w : World} {base fuel : Nat} {spare : Nat → Bool} {held : Bool} {cs : List Value} {x : DataW H × List MemPlace}

set_option maxRecDepth 100000 in
/-- A Paid that came in. -/
theorem paid_arg {r : Reach} {b0 : Nat} {v : Value} {d : DataW H} {p : List MemPlace} (hv : Value.okWide Try.prog w r b0 40 v)
    (h : DataW.Trod enc Try.prog w base spare held 40 v d p) : ∃ z : Pd, v = z.val ∧ z.fits := by
  obtain ⟨cs, rfl, hs⟩ := okWide_struct Try.underlying40 hv
  obtain ⟨fuel, hf⟩ := h
  obtain ⟨x0, e0, w0⟩ := trod_num Try.underlying40 hf .u8 0 _ rfl 0 rfl (by kernel_rfl) (by kernel_rfl)
  obtain ⟨x1, e1, w1⟩ := trod_num Try.underlying40 hf .u8 1 _ rfl 1 rfl (by kernel_rfl) (by kernel_rfl)
  obtain ⟨x2, e2, w2⟩ := trod_num Try.underlying40 hf .u8 2 _ rfl 2 rfl (by kernel_rfl) (by kernel_rfl)
  obtain ⟨x3, e3, w3⟩ := trod_num Try.underlying40 hf .u8 3 _ rfl 3 rfl (by kernel_rfl) (by kernel_rfl)
  obtain ⟨x4, e4, w4⟩ := trod_num Try.underlying40 hf .u8 4 _ rfl 4 rfl (by kernel_rfl) (by kernel_rfl)
  obtain ⟨x5, e5, w5⟩ := trod_num Try.underlying40 hf .u8 5 _ rfl 5 rfl (by kernel_rfl) (by kernel_rfl)
  obtain ⟨x6, e6, w6⟩ := trod_num Try.underlying40 hf .u8 6 _ rfl 6 rfl (by kernel_rfl) (by kernel_rfl)
  obtain ⟨x7, e7⟩ := trod_flag Try.underlying40 hf 7 _ rfl 7 rfl (by kernel_rfl) (by kernel_rfl)
  have hs := hs.trans (show Try.prog.cellsOf 40 = 8 by kernel_rfl)
  obtain ⟨cs⟩ := cs
  match cs, hs with
  | [v0, v1, v2, v3, v4, v5, v6, v7], _ =>
    simp [Value.cells] at e0 e1 e2 e3 e4 e5 e6 e7
    subst e0 e1 e2 e3 e4 e5 e6 e7
    obtain ⟨z0, rfl, g0⟩ := u8_nat w0
    obtain ⟨z1, rfl, g1⟩ := u8_nat w1
    obtain ⟨z2, rfl, g2⟩ := u8_nat w2
    obtain ⟨z3, rfl, g3⟩ := u8_nat w3
    obtain ⟨z4, rfl, g4⟩ := u8_nat w4
    obtain ⟨z5, rfl, g5⟩ := u8_nat w5
    obtain ⟨z6, rfl, g6⟩ := u8_nat w6
    exact ⟨⟨z0, z1, z2, z3, z4, z5, z6, x7⟩, rfl, ⟨g0, g1, g2, g3, g4, g5, g6⟩⟩
end
end Go.Proofs.Ytdepidemciigkaa
