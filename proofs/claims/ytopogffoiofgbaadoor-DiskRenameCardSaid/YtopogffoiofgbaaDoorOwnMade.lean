/-
  make([]byte, n) is the call's own.
-/
import Derived.Test.YtopogffoiofgbaaDoorInts
import Derived.Deep.OwnRows
namespace Go.Proofs.YtopogffoiofgbaaDoor
open Go.RowKit

/-- What make lays is the call's own. -/
theorem own_made (w : World) (n base : Nat) (hn : n ≤ maxLen) (hb : base ≤ w.heap.size) :
    Own 5 .u8 (w.alloc (.cells (madeCells #[.int .u8 0] n) 5)) base (.slice (some ⟨w.heap.size, 0, none⟩) n n) n (ints (List.replicate n 0)) := by
  refine ⟨by simp [ints], .inr ⟨w.heap.size, n, _, rfl, hb, heap_alloc_new w _, Nat.le_refl _, hn, ?_, ?_⟩⟩
  · simp [madeCells]
  · apply List.ext_getElem?
    intro j
    by_cases hj : j < n
    · simp [madeCells, ints, hj, Nat.mod_one]
    · simp [madeCells, ints, hj]
end Go.Proofs.YtopogffoiofgbaaDoor
