/-
  The accounts of a book that came in, at whatever time.
-/
import Derived.Test.YtpgjifbeckmieaaDoorChartArg
import Derived.Test.YtpgjifbeckmieaaDoorBook
namespace Go.Proofs.YtpgjifbeckmieaaDoor
open Go Go.RowKit
set_option linter.unusedVariables false

/-- The accounts of a book that came in, at whatever time. -/
theorem book_any {w W : World} {v : Value} (h : BookAt w v) (hb : Below w.heap.size w W) : Calls Tryd.prog 5 #[v] W (BookRes W) := by
  obtain ⟨CA, HA, LA, cl, cc, hl, hc, ll, lc, cs, hs, ls, rfl, h1, h2, h3, h4, h5, h6, h7, h8, h9⟩ := h.form
  exact accounts_any CA HA LA cl cc hl hc ll lc cs hs ls W (h1.below hb) (h2.below hb) (h3.below hb) h4 h5 h6 h7 h8 h9
end Go.Proofs.YtpgjifbeckmieaaDoor
