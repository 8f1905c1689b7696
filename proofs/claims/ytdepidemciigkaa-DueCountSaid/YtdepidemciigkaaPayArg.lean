/-
  Payments that came in.
-/
import Derived.Test.YtdepidemciigkaaPay
import Derived.Test.YtdepidemciigkaaProg
import Derived.Test.YtdepidemciigkaaShapeArg
namespace Go.Proofs.Ytdepidemciigkaa
open Go Go.RowKit Go.ChangeShapes Go.WideShapes Go.Deep Go.Joins
set_option linter.unusedVariables false

def Py.cells (p : Py) : List Value := [.int .i64 p.frm, .int .i64 p.dst, .int .i64 p.aut, .int .i64 p.cap, .int .i64 p.ref, .int .i64 p.chg, .int .i64 p.til, .int .i64 p.stg]
theorem in64_of {b : Int} (h : (Lit.int .i64 b).wf = true) : in64 b := by
  simp only [Lit.wf, Bool.and_eq_true, decide_eq_true_eq] at h
  have e1 : IntKind.i64.min = -9223372036854775808 := rfl
  have e2 : IntKind.i64.max = 9223372036854775807 := rfl
  unfold in64
  omega

section
variable {H : Type} {enc : TypeId × Value → H} {w : World} {base fuel : Nat} {spare : Nat → Bool} {held : Bool} {cs : List Value} {x : DataW H × List MemPlace}

set_option maxRecDepth 100000 in
theorem py_of (h : DataW.trod enc Try.prog w base spare held fuel 33 cs = some x) : ∃ z : Py, z.fits ∧ cs = z.cells := by
  have hl : cs.length = 8 := by obtain ⟨_, _, _, _, hl, _⟩ := DataW.trod_struct Try.underlying33 h; exact hl.trans (by kernel_rfl)
  obtain ⟨x0, e0, w0⟩ := trod_num Try.underlying33 h .i64 0 _ rfl 0 rfl (by kernel_rfl) (by kernel_rfl)
  obtain ⟨x1, e1, w1⟩ := trod_num Try.underlying33 h .i64 1 _ rfl 1 rfl (by kernel_rfl) (by kernel_rfl)
  obtain ⟨x2, e2, w2⟩ := trod_num Try.underlying33 h .i64 2 _ rfl 2 rfl (by kernel_rfl) (by kernel_rfl)
  obtain ⟨x3, e3, w3⟩ := trod_num Try.underlying33 h .i64 3 _ rfl 3 rfl (by kernel_rfl) (by kernel_rfl)
  obtain ⟨x4, e4, w4⟩ := trod_num Try.underlying33 h .i64 4 _ rfl 4 rfl (by kernel_rfl) (by kernel_rfl)
  obtain ⟨x5, e5, w5⟩ := trod_num Try.underlying33 h .i64 5 _ rfl 5 rfl (by kernel_rfl) (by kernel_rfl)
  obtain ⟨x6, e6, w6⟩ := trod_num Try.underlying33 h .i64 6 _ rfl 6 rfl (by kernel_rfl) (by kernel_rfl)
  obtain ⟨x7, e7, w7⟩ := trod_num Try.underlying33 h .i64 7 _ rfl 7 rfl (by kernel_rfl) (by kernel_rfl)
  match cs, hl with
  | [v0, v1, v2, v3, v4, v5, v6, v7], _ =>
    simp at e0 e1 e2 e3 e4 e5 e6 e7
    subst e0 e1 e2 e3 e4 e5 e6 e7
    exact ⟨⟨x0, x1, x2, x3, x4, x5, x6, x7⟩, ⟨in64_of w0, in64_of w1, in64_of w2, in64_of w3, in64_of w4, in64_of w5, in64_of w6, in64_of w7⟩, rfl⟩

/-- A payment that came in. -/
theorem pay_arg {r : Reach} {b0 : Nat} {v : Value} {d : DataW H} {p : List MemPlace} (hv : Value.okWide Try.prog w r b0 33 v)
    (h : DataW.Trod enc Try.prog w base spare held 33 v d p) : ∃ z : Py, v = z.val ∧ z.fits := by
  obtain ⟨cs, rfl, _⟩ := okWide_struct Try.underlying33 hv
  obtain ⟨fuel, hf⟩ := h
  obtain ⟨z, hz, hc⟩ := py_of hf
  obtain ⟨cs⟩ := cs
  simp [Value.cells] at hc
  subst hc
  exact ⟨z, rfl, hz⟩
end
end Go.Proofs.Ytdepidemciigkaa
