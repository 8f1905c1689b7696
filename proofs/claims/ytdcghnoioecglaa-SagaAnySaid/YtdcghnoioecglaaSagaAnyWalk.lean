/-
  The statement SagaAny by its walk.
-/
import Derived.Test.YtdcghnoioecglaaSagaAnyLaw
import Derived.Test.YtdcghnoioecglaaSagaFns
import Derived.Test.YtdcghnoioecglaaArgNat
import Derived.Test.YtdcghnoioecglaaSagaArg
namespace Go.Proofs.Ytdcghnoioecglaa
open Go Go.RowKit
set_option linter.unusedVariables false

theorem sagaAny_walk (w : World) (a0 : Sg) (w0 : a0.fits) (a1 : Bool) (a2 : Int) (w2 : (Lit.int .i8 a2).wf = true) : Calls Try.prog 4 #[a0.val, .bool a1, .int .i8 a2] w fun e w' => e = .returned (.bool true) ∧ Below w.heap.size w w' := by
  have h : -128 ≤ a2 ∧ a2 < 128 := by
    simp only [Lit.wf, Bool.and_eq_true, decide_eq_true_eq] at w2
    have e1 : IntKind.i8.min = -128 := rfl
    have e2 : IntKind.i8.max = 127 := rfl
    omega
  exact sagaAny_of saga_fns w a0 a1 a2 h.1 h.2
end Go.Proofs.Ytdcghnoioecglaa
