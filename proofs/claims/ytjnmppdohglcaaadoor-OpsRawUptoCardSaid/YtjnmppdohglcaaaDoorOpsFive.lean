/-
  The five blocks of the law's do, as they are made.
-/
import Derived.Test.YtjnmppdohglcaaaDoorGrE
namespace Go.Proofs.YtjnmppdohglcaaaDoor
open Go Go.RowKit
set_option linter.unusedVariables false

theorem w5_five (w : World) (vs rs : Array Value) : Five w (w5 w vs rs) vs rs vs := ⟨w5_s w vs rs, w5_r w vs rs, w5_2 w vs rs, w5_3 w vs rs, w5_t w vs rs, w5_below w vs rs⟩
end Go.Proofs.YtjnmppdohglcaaaDoor
