/-
  The accounts of a book that came in, at whatever time.
-/
import Derived.Test.YtbneohglblkmeaaDoorChartArg
import Derived.Test.YtbneohglblkmeaaDoorBook
namespace Go.Proofs.YtbneohglblkmeaaDoor
open Go Go.RowKit
set_option linter.unusedVariables false

/-- The accounts of a book that came in, at whatever time. -/
theorem book_any {w W : World} {v : Value} (h : BookAt w v) (hb : Below w.heap.size w W) : Calls Tryd.prog 9 #[v] W (BookRes W) := by
  obtain ⟨CA, HA, LA, cl, cc, hl, hc, ll, lc, cs, hs, ls, rfl, h1, h2, h3, h4, h5, h6, h7, h8, h9⟩ := h.form
  exact accounts_any CA HA LA cl cc hl hc ll lc cs hs ls W (h1.below hb) (h2.below hb) (h3.below hb) h4 h5 h6 h7 h8 h9

/-- The accounts of a book that came in are the same at whatever time. -/
theorem book_is {w : World} {v : Value} (h : BookAt w v) : ∃ (zs : List Ac) (k : Nat), BookOk k zs ∧ k ≤ 8 ∧ ∀ W, Below w.heap.size w W → Calls Tryd.prog 9 #[v] W fun e w' => ∃ v', e = .returned v' ∧ OwnA w' W.heap.size v' zs ∧ Below W.heap.size W w' := by
  obtain ⟨CA, HA, LA, cl, cc, hl, hc, ll, lc, cs, hs, ls, rfl, h1, h2, h3, h4, h5, h6, h7, h8, h9⟩ := h.form
  have key := fun W (hb : Below w.heap.size w W) => accounts_curs CA HA LA cl cc hl hc ll lc cs hs ls W (h1.below hb) (h2.below hb) (h3.below hb) h4 h5 h6 h7 h8 h9
  refine ⟨bookTo cs hs ls (min cl 8), min cl 8, ?_, by omega, fun W hb => (key W hb).mono ?_⟩
  · exact bookTo_ok cs hs ls (min cl 8)
  · rintro e w' ⟨v, zs, k, he, ho, hk8, hk, _, ⟨_, hkl, hz⟩, hb'⟩
    have : k = min cl 8 := by omega
    subst this
    rw [hz] at ho
    exact ⟨v, he, ho, hb'⟩
end Go.Proofs.YtbneohglblkmeaaDoor
