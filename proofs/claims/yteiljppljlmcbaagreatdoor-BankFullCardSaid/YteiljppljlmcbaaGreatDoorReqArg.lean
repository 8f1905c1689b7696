/-
  An ask that came in.
-/
import Derived.Test.YteiljppljlmcbaaGreatDoorReqAsk
import Derived.Test.YteiljppljlmcbaaGreatDoorReqIn
import Derived.Test.YteiljppljlmcbaaGreatDoorGrA
import Derived.Deep.Slices
import Derived.Lib.SmallJoins
namespace Go.Proofs.YteiljppljlmcbaaGreatDoor
open Go Go.RowKit Go.ChangeShapes Go.WideShapes Go.Deep Go.Joins
set_option linter.unusedVariables false

section
variable {H : Type} {enc : TypeId × Value → H} {w : World} {base : Nat} {spare : Nat → Bool} {held : Bool}
set_option maxRecDepth 100000 in
/-- An ask that came in. -/
theorem ask_arg {r : Reach} {b0 : Nat} {v : Value} {d : DataW H} {p : List MemPlace} (hv : Value.okWide Tryz.prog w r b0 39 v)
    (h : DataW.Trod enc Tryz.prog w base spare held 39 v d p) : ∃ z : Ak, v = z.val ∧ z.fits := by
  obtain ⟨v0, v1, v2, v3, v4, v5, v6, y0, y1, y2, y3, y4, y5, y6, n, rfl, h0, h1, h2, h3, h4, h5, h6⟩ := open_agg7 Tryz.underlying39 (by kernel_rfl) (by kernel_rfl) hv h
  obtain ⟨x0, e0, _, w0⟩ := DataW.trod_int Tryz.underlying5 h0
  obtain ⟨x1, e1, _, w1⟩ := DataW.trod_int Tryz.underlying5 h1
  obtain ⟨x2, e2, _, w2⟩ := DataW.trod_int Tryz.underlying5 h2
  obtain ⟨x3, e3, _, w3⟩ := DataW.trod_int Tryz.underlying5 h3
  obtain ⟨x4, e4, _, w4⟩ := DataW.trod_int Tryz.underlying37 h4
  obtain ⟨x5, e5, _, w5⟩ := DataW.trod_int Tryz.underlying5 h5
  obtain ⟨x6, e6, _, w6⟩ := DataW.trod_int Tryz.underlying5 h6
  simp at e0 e1 e2 e3 e4 e5 e6
  subst e0 e1 e2 e3 e4 e5 e6
  obtain ⟨z0, rfl, g0⟩ := u8_nat w0
  obtain ⟨z1, rfl, g1⟩ := u8_nat w1
  obtain ⟨z2, rfl, g2⟩ := u8_nat w2
  obtain ⟨z3, rfl, g3⟩ := u8_nat w3
  obtain ⟨z4, rfl, g4⟩ := u16_nat w4
  obtain ⟨z5, rfl, g5⟩ := u8_nat w5
  obtain ⟨z6, rfl, g6⟩ := u8_nat w6
  exact ⟨⟨z0, z1, z2, z3, z4, z5, z6⟩, rfl, ⟨g0, g1, g2, g3, g4, g5, g6⟩⟩
end
end Go.Proofs.YteiljppljlmcbaaGreatDoor
