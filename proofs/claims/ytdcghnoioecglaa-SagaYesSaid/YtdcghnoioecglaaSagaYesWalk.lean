/-
  The statement SagaYes by its walk.
-/
import Derived.Test.YtdcghnoioecglaaSagaYesLaw
import Derived.Test.YtdcghnoioecglaaSagaFns
import Derived.Test.YtdcghnoioecglaaArgNat
namespace Go.Proofs.Ytdcghnoioecglaa
open Go Go.RowKit
set_option linter.unusedVariables false

theorem sagaYes_walk (w : World) (a0 : Int) (w0 : (Lit.int .u8 a0).wf = true) (a1 : Option Addr) (l1 c1 : Nat) (z1 : List Int) (i1 : IsRow .u8 w a1 l1 c1 z1) : Calls Try.prog 6 #[.int .u8 a0, .slice a1 l1 c1] w fun e w' => e = .returned (.bool true) ∧ Below w.heap.size w w' := by
  obtain ⟨z, rfl, hz⟩ := u8_nat w0
  exact sagaYes_of saga_fns w z hz a1 l1 c1 z1 i1
end Go.Proofs.Ytdcghnoioecglaa
