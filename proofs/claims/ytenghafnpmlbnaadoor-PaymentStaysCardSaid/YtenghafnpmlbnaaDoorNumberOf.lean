/-
  api.Number of an error by its number.
-/
import Derived.Test.YtenghafnpmlbnaaDoorNumber
import Derived.Test.YtenghafnpmlbnaaDoorErrV
namespace Go.Proofs.YtenghafnpmlbnaaDoor
open Go Go.RowKit

theorem number_of (n : Int) (w : World) (hh : HasErr w) : Calls Tryd.prog 13 #[errV n] w fun e w' => e = .returned (.int .i64 n) ∧ Below w.heap.size w w' := by
  unfold errV
  by_cases h : n = 0
  · rw [if_pos h, h]; exact number_nil w
  · rw [if_neg h]; exact number_err n w hh
end Go.Proofs.YtenghafnpmlbnaaDoor
