/-
  A payment's cells, read behind a world.
-/
import Derived.Test.YtenghafnpmlbnaaDoorPy8
import Derived.Test.YtenghafnpmlbnaaDoorAfter
namespace Go.Proofs.YtenghafnpmlbnaaDoor
open Go Go.RowKit

theorem Py8.after {w : World} {g : Nat} {t : TypeId} {x0 x1 x2 x3 x4 x5 x6 x7 : Int} (h : Py8 w g t x0 x1 x2 x3 x4 x5 x6 x7) (hg : g < w.heap.size) :
    (∀ p : After w, p.world.cell? ⟨g, 0, none⟩ = some (.int .i64 x0)) ∧
    (∀ p : After w, p.world.cell? ⟨g, 1, none⟩ = some (.int .i64 x1)) ∧
    (∀ p : After w, p.world.cell? ⟨g, 2, none⟩ = some (.int .i64 x2)) ∧
    (∀ p : After w, p.world.cell? ⟨g, 3, none⟩ = some (.int .i64 x3)) ∧
    (∀ p : After w, p.world.cell? ⟨g, 4, none⟩ = some (.int .i64 x4)) ∧
    (∀ p : After w, p.world.cell? ⟨g, 5, none⟩ = some (.int .i64 x5)) ∧
    (∀ p : After w, p.world.cell? ⟨g, 6, none⟩ = some (.int .i64 x6)) ∧
    (∀ p : After w, p.world.cell? ⟨g, 7, none⟩ = some (.int .i64 x7)) :=
  ⟨fun p => (h.below p.below hg).cells.1, fun p => (h.below p.below hg).cells.2.1, fun p => (h.below p.below hg).cells.2.2.1, fun p => (h.below p.below hg).cells.2.2.2.1, fun p => (h.below p.below hg).cells.2.2.2.2.1, fun p => (h.below p.below hg).cells.2.2.2.2.2.1, fun p => (h.below p.below hg).cells.2.2.2.2.2.2.1, fun p => (h.below p.below hg).cells.2.2.2.2.2.2.2⟩
end Go.Proofs.YtenghafnpmlbnaaDoor
