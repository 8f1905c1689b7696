/-
  The statement DueTime by its walk.
-/
import Derived.Test.YtdepidemciigkaaDueTimeLaw
import Derived.Test.YtdepidemciigkaaDueFnAll
namespace Go.Proofs.Ytdepidemciigkaa
open Go Go.RowKit

theorem dueTime_walk (w : World) (a0 : Option Addr) (l0 c0 : Nat) (i0 : IsRecs paids Pd.fits w a0 l0 c0) (a1 : Int) (w1 : (Lit.int .i8 a1).wf = true) (a2 : Int) (w2 : (Lit.int .i8 a2).wf = true) : Calls Try.prog 7 #[.slice a0 l0 c0, .int .i8 a1, .int .i8 a2] w fun e w' => e = .returned (.bool true) ∧ Below w.heap.size w w' := dueTime_of due_fns w a0 l0 c0 i0 a1 w1 a2 w2
end Go.Proofs.Ytdepidemciigkaa
