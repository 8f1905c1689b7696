/-
  The statement SagaMost by its walk.
-/
import Derived.Test.YtdcghnoioecglaaSagaMostLaw
import Derived.Test.YtdcghnoioecglaaSagaFns
import Derived.Test.YtdcghnoioecglaaArgNat
namespace Go.Proofs.Ytdcghnoioecglaa
open Go Go.RowKit
set_option linter.unusedVariables false

theorem sagaMost_walk (w : World) (a0 : Int) (w0 : (Lit.int .u8 a0).wf = true) (a1 : Option Addr) (l1 c1 : Nat) (i1 : IsRecs flags (fun _ => True) w a1 l1 c1) (a2 : Option Addr) (l2 c2 : Nat) (i2 : IsRecs flags (fun _ => True) w a2 l2 c2) : Calls Try.prog 5 #[.int .u8 a0, .slice a1 l1 c1, .slice a2 l2 c2] w fun e w' => e = .returned (.bool true) ∧ Below w.heap.size w w' := by
  obtain ⟨z, rfl, hz⟩ := u8_nat w0
  exact sagaMost_of saga_fns w z hz a1 l1 c1 i1 a2 l2 c2 i2
end Go.Proofs.Ytdcghnoioecglaa
