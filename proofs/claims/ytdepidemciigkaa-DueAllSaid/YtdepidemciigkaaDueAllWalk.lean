/-
  The statement DueAll by its walk.
-/
import Derived.Test.YtdepidemciigkaaDueAllLaw
import Derived.Test.YtdepidemciigkaaDueFnAll
namespace Go.Proofs.Ytdepidemciigkaa
open Go Go.RowKit

theorem dueAll_walk (w : World) (a0 : Option Addr) (l0 c0 : Nat) (i0 : IsRecs paids Pd.fits w a0 l0 c0) (a1 : Option Addr) (l1 c1 : Nat) (i1 : IsRecs pays Py.fits w a1 l1 c1) : Calls Try.prog 3 #[.slice a0 l0 c0, .slice a1 l1 c1] w fun e w' => e = .returned (.bool true) ∧ Below w.heap.size w w' := dueAll_of due_fns w a0 l0 c0 i0 a1 l1 c1 i1
end Go.Proofs.Ytdepidemciigkaa
