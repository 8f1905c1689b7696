/-
  The statement SagaLeg by its walk.
-/
import Derived.Test.YtdcghnoioecglaaSagaLegLaw
import Derived.Test.YtdcghnoioecglaaSagaFns
import Derived.Test.YtdcghnoioecglaaArgNat
namespace Go.Proofs.Ytdcghnoioecglaa
open Go Go.RowKit
set_option linter.unusedVariables false

theorem sagaLeg_walk (w : World) (a0 : Int) (w0 : (Lit.int .u8 a0).wf = true) (a1 : Option Addr) (l1 c1 : Nat) (i1 : IsRecs flags (fun _ => True) w a1 l1 c1) (a2 : Rq) (w2 : a2.fits) : Calls Try.prog 3 #[.int .u8 a0, .slice a1 l1 c1, a2.val] w fun e w' => e = .returned (.bool true) ∧ Below w.heap.size w w' := by
  obtain ⟨z, rfl, hz⟩ := u8_nat w0
  exact sagaLeg_of saga_fns w z hz a1 l1 c1 i1 a2
end Go.Proofs.Ytdcghnoioecglaa
