/-
  A request that came in as part of another record.
-/
import Derived.Test.YtdcghnoioecglaaReqIn
import Derived.Test.YtdcghnoioecglaaShapeArg
namespace Go.Proofs.Ytdcghnoioecglaa
open Go Go.RowKit Go.ChangeShapes Go.WideShapes Go.Deep Go.Joins
set_option linter.unusedVariables false

section
variable {H : Type} {enc : TypeId × Value → H} {w : World} {base fuel : Nat} {spare : Nat → Bool} {held : Bool} {cs : List Value} {x : DataW H × List MemPlace}

set_option maxRecDepth 100000 in
theorem rq_of (h : DataW.trod enc Try.prog w base spare held fuel 25 cs = some x) : ∃ z : Rq, z.fits ∧ cs = z.nums.map (Value.int .i64) := by
  have hl : cs.length = 7 := by obtain ⟨_, _, _, _, hl, _⟩ := DataW.trod_struct Try.underlying25 h; exact hl.trans (by kernel_rfl)
  obtain ⟨x0, e0, w0⟩ := trod_num Try.underlying25 h .i64 0 _ rfl 0 rfl (by kernel_rfl) (by kernel_rfl)
  obtain ⟨x1, e1, w1⟩ := trod_num Try.underlying25 h .i64 1 _ rfl 1 rfl (by kernel_rfl) (by kernel_rfl)
  obtain ⟨x2, e2, w2⟩ := trod_num Try.underlying25 h .i64 2 _ rfl 2 rfl (by kernel_rfl) (by kernel_rfl)
  obtain ⟨x3, e3, w3⟩ := trod_num Try.underlying25 h .i64 3 _ rfl 3 rfl (by kernel_rfl) (by kernel_rfl)
  obtain ⟨x4, e4, w4⟩ := trod_num Try.underlying25 h .i64 4 _ rfl 4 rfl (by kernel_rfl) (by kernel_rfl)
  obtain ⟨x5, e5, w5⟩ := trod_num Try.underlying25 h .i64 5 _ rfl 5 rfl (by kernel_rfl) (by kernel_rfl)
  obtain ⟨x6, e6, w6⟩ := trod_num Try.underlying25 h .i64 6 _ rfl 6 rfl (by kernel_rfl) (by kernel_rfl)
  match cs, hl with
  | [v0, v1, v2, v3, v4, v5, v6], _ =>
    simp at e0 e1 e2 e3 e4 e5 e6
    subst e0 e1 e2 e3 e4 e5 e6
    exact ⟨⟨x0, x1, x2, x3, x4, x5, x6⟩, (Rq.fits_iff _).2 ⟨int_inI w0, int_inI w1, int_inI w2, int_inI w3, int_inI w4, int_inI w5, int_inI w6⟩, rfl⟩
end
end Go.Proofs.Ytdcghnoioecglaa
