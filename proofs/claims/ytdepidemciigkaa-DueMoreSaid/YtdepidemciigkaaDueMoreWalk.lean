/-
  The statement DueMore by its walk.
-/
import Derived.Test.YtdepidemciigkaaDueMoreLaw
import Derived.Test.YtdepidemciigkaaDueFnAll
namespace Go.Proofs.Ytdepidemciigkaa
open Go Go.RowKit

theorem dueMore_walk (w : World) (a0 : Option Addr) (l0 c0 : Nat) (i0 : IsRecs paids Pd.fits w a0 l0 c0) (a1 : Pd) (w1 : a1.fits) : Calls Try.prog 6 #[.slice a0 l0 c0, a1.val] w fun e w' => e = .returned (.bool true) ∧ Below w.heap.size w w' := dueMore_of due_fns w a0 l0 c0 i0 a1 w1
end Go.Proofs.Ytdepidemciigkaa
