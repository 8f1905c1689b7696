/-
  A payment's cells, read behind a world.
-/
import Derived.Test.YtdepidemciigkaaPy8
import Derived.Test.YtdepidemciigkaaAfter
namespace Go.Proofs.Ytdepidemciigkaa
open Go Go.RowKit

theorem Py8.after {w : World} {g : Nat} {t : TypeId} {x0 x1 x2 x3 x4 x5 x6 x7 : Int} (h : Py8 w g t x0 x1 x2 x3 x4 x5 x6 x7) (hg : g < w.heap.size) :
    (∀ p : After w, p.world.cell? ⟨g, 0, none⟩ = some (.int .i64 x0)) ∧
    (∀ p : After w, p.world.cell? ⟨g, 1, none⟩ = some (.int .i64 x1)) ∧
    (∀ p : After w, p.world.cell? ⟨g, 2, none⟩ = some (.int .i64 x2)) ∧
    (∀ p : After w, p.world.cell? ⟨g, 3, none⟩ = some (.int .i64 x3)) ∧
    (∀ p : After w, p.world.cell? ⟨g, 4, none⟩ = some (.int .i64 x4)) ∧
    (∀ p : After w, p.world.cell? ⟨g, 5, none⟩ = some (.int .i64 x5)) ∧
    (∀ p : After w, p.world.cell? ⟨g, 6, none⟩ = some (.int .i64 x6)) ∧
    (∀ p : After w, p.world.cell? ⟨g, 7, none⟩ = some (.int .i64 x7)) :=
  ⟨fun p => (h.below p.below hg).cells.1, fun p => (h.below p.below hg).cells.2.1, fun p => (h.below p.below hg).cells.2.2.1, fun p => (h.below p.below hg).cells.2.2.2.1, fun p => (h.below p.below hg).cells.2.2.2.2.1, fun p => (h.below p.below hg).cells.2.2.2.2.2.1, fun p => (h.below p.below hg).cells.2.2.2.2.2.2.1, fun p => (h.below p.below hg).cells.2.2.2.2.2.2.2⟩

/-- A Paid's cells in a block. -/
def Pd8 (w : World) (g : Nat) (zf zt za zc zr zg zu : Nat) (zl : Bool) : Prop := w.heap[g]? = some (.cells #[.int .u8 (zf : Int), .int .u8 (zt : Int), .int .u8 (za : Int), .int .u8 (zc : Int), .int .u8 (zr : Int), .int .u8 (zg : Int), .int .u8 (zu : Int), .bool zl] 40 (0, 0))
theorem Pd8.new (w : World) (zf zt za zc zr zg zu : Nat) (zl : Bool) : Pd8 (w.alloc (.cells #[.int .u8 (zf : Int), .int .u8 (zt : Int), .int .u8 (za : Int), .int .u8 (zc : Int), .int .u8 (zr : Int), .int .u8 (zg : Int), .int .u8 (zu : Int), .bool zl] 40)) w.heap.size zf zt za zc zr zg zu zl := heap_alloc_new w _
theorem Pd8.below {w' : World} {B : Nat} {w : World} {g : Nat} {zf zt za zc zr zg zu : Nat} {zl : Bool} (h : Pd8 w g zf zt za zc zr zg zu zl) (hb : Below B w w') (hg : g < B) : Pd8 w' g zf zt za zc zr zg zu zl := (hb.block g hg).trans h
theorem Pd8.cells {w : World} {g : Nat} {zf zt za zc zr zg zu : Nat} {zl : Bool} (h : Pd8 w g zf zt za zc zr zg zu zl) : w.cell? ⟨g, 0, none⟩ = some (.int .u8 (zf : Int)) ∧ w.cell? ⟨g, 1, none⟩ = some (.int .u8 (zt : Int)) ∧ w.cell? ⟨g, 2, none⟩ = some (.int .u8 (za : Int)) ∧ w.cell? ⟨g, 3, none⟩ = some (.int .u8 (zc : Int)) ∧ w.cell? ⟨g, 4, none⟩ = some (.int .u8 (zr : Int)) ∧ w.cell? ⟨g, 5, none⟩ = some (.int .u8 (zg : Int)) ∧ w.cell? ⟨g, 6, none⟩ = some (.int .u8 (zu : Int)) ∧ w.cell? ⟨g, 7, none⟩ = some (.bool zl) :=
  ⟨cell_of_row w g 0 _ _ _ h, cell_of_row w g 1 _ _ _ h, cell_of_row w g 2 _ _ _ h, cell_of_row w g 3 _ _ _ h, cell_of_row w g 4 _ _ _ h, cell_of_row w g 5 _ _ _ h, cell_of_row w g 6 _ _ _ h, cell_of_row w g 7 _ _ _ h⟩
end Go.Proofs.Ytdepidemciigkaa
