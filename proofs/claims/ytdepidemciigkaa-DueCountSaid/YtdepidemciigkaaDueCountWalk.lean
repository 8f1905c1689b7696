/-
  The statement DueCount by its walk.
-/
import Derived.Test.YtdepidemciigkaaDueCountLaw
import Derived.Test.YtdepidemciigkaaDueFnAll
namespace Go.Proofs.Ytdepidemciigkaa
open Go Go.RowKit

theorem dueCount_walk (w : World) (a0 : Option Addr) (l0 c0 : Nat) (i0 : IsRecs paids Pd.fits w a0 l0 c0) : Calls Try.prog 8 #[.slice a0 l0 c0] w fun e w' => e = .returned (.bool true) ∧ Below w.heap.size w w' := dueCount_of due_fns w a0 l0 c0 i0
end Go.Proofs.Ytdepidemciigkaa
