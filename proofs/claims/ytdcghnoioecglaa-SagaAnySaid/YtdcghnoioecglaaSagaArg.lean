/-
  A saga that came in.
-/
import Derived.Test.YtdcghnoioecglaaSaga
import Derived.Test.YtdcghnoioecglaaRqOf
namespace Go.Proofs.Ytdcghnoioecglaa
open Go Go.RowKit Go.ChangeShapes Go.WideShapes Go.Deep Go.Joins
set_option linter.unusedVariables false

def Sg.fits (s : Sg) : Prop := s.rq.fits ∧ inI s.ph ∧ inI s.leg ∧ inI s.tries ∧ inI s.why
section
variable {H : Type} {enc : TypeId × Value → H} {w : World} {base fuel : Nat} {spare : Nat → Bool} {held : Bool} {cs : List Value} {x : DataW H × List MemPlace}

set_option maxRecDepth 100000 in
theorem sg_of (h : DataW.trod enc Try.prog w base spare held fuel 30 cs = some x) : ∃ z : Sg, z.fits ∧ cs = z.cells := by
  have hl : cs.length = 11 := by obtain ⟨_, _, _, _, hl, _⟩ := DataW.trod_struct Try.underlying30 h; exact hl.trans (by kernel_rfl)
  obtain ⟨_, _, g0⟩ := trod_field Try.underlying30 h 0 _ rfl 0 7 rfl (by kernel_rfl)
  obtain ⟨x1, e1, w1⟩ := trod_num Try.underlying30 h .i64 1 _ rfl 7 rfl (by kernel_rfl) (by kernel_rfl)
  obtain ⟨x2, e2, w2⟩ := trod_num Try.underlying30 h .i64 2 _ rfl 8 rfl (by kernel_rfl) (by kernel_rfl)
  obtain ⟨x3, e3, w3⟩ := trod_num Try.underlying30 h .i64 3 _ rfl 9 rfl (by kernel_rfl) (by kernel_rfl)
  obtain ⟨x4, e4, w4⟩ := trod_num Try.underlying30 h .i64 4 _ rfl 10 rfl (by kernel_rfl) (by kernel_rfl)
  obtain ⟨⟨a0, a1, a2, a3, a4, a5, a6⟩, f0, e0⟩ := rq_of g0
  match cs, hl with
  | [v0, v1, v2, v3, v4, v5, v6, v7, v8, v9, v10], _ =>
    simp [Rq.nums] at e0 e1 e2 e3 e4
    obtain ⟨rfl, rfl, rfl, rfl, rfl, rfl, rfl⟩ := e0
    subst e1 e2 e3 e4
    exact ⟨⟨⟨a0, a1, a2, a3, a4, a5, a6⟩, x1, x2, x3, x4⟩, ⟨f0, int_inI w1, int_inI w2, int_inI w3, int_inI w4⟩, rfl⟩

set_option maxRecDepth 100000 in
/-- A saga that came in. -/
theorem saga_arg {r : Reach} {b0 : Nat} {v : Value} {d : DataW H} {p : List MemPlace} (hv : Value.okWide Try.prog w r b0 30 v)
    (h : DataW.Trod enc Try.prog w base spare held 30 v d p) : ∃ z : Sg, v = z.val ∧ z.fits := by
  obtain ⟨cs, rfl, _⟩ := okWide_struct Try.underlying30 hv
  obtain ⟨fuel, hf⟩ := h
  obtain ⟨z, hz, hc⟩ := sg_of hf
  obtain ⟨cs⟩ := cs
  simp [Value.cells] at hc
  subst hc
  exact ⟨z, rfl, hz⟩
end
end Go.Proofs.Ytdcghnoioecglaa
