/-
  The cells of asks and requests in blocks, and what is known of them behind a world.
-/
import Derived.Test.YtenepkhglgfpaaaReqAsk
import Derived.Test.YtenepkhglgfpaaaAfter
namespace Go.Proofs.Ytenepkhglgfpaaa
open Go Go.RowKit
set_option linter.unusedVariables false

/-- An ask's cells in a block. -/
def Ak7 (w : World) (g : Nat) (z : Ak) : Prop := w.heap[g]? = some (.cells #[.int .u8 (z.key : Int), .int .u8 (z.op : Int), .int .u8 (z.a : Int), .int .u8 (z.b : Int), .int .u16 (z.amt : Int), .int .u8 (z.legs : Int), .int .u8 (z.til : Int)] 27 (0, 0))
theorem Ak7.new (w : World) (z : Ak) : Ak7 (w.alloc (.cells #[.int .u8 (z.key : Int), .int .u8 (z.op : Int), .int .u8 (z.a : Int), .int .u8 (z.b : Int), .int .u16 (z.amt : Int), .int .u8 (z.legs : Int), .int .u8 (z.til : Int)] 27)) w.heap.size z := heap_alloc_new w _
theorem Ak7.below {w w' : World} {B g : Nat} {z : Ak} (h : Ak7 w g z) (hb : Below B w w') (hg : g < B) : Ak7 w' g z := (hb.block g hg).trans h
theorem Ak7.alloc {w : World} {g : Nat} {z : Ak} (h : Ak7 w g z) (o : Obj) (hg : g < w.heap.size) : Ak7 (w.alloc o) g z := (Below.heap_alloc w o g hg).trans h
theorem Ak7.cells {w : World} {g : Nat} {z : Ak} (h : Ak7 w g z) : w.cell? ⟨g, 0, none⟩ = some (.int .u8 (z.key : Int)) ∧ w.cell? ⟨g, 1, none⟩ = some (.int .u8 (z.op : Int)) ∧ w.cell? ⟨g, 2, none⟩ = some (.int .u8 (z.a : Int)) ∧ w.cell? ⟨g, 3, none⟩ = some (.int .u8 (z.b : Int)) ∧ w.cell? ⟨g, 4, none⟩ = some (.int .u16 (z.amt : Int)) ∧ w.cell? ⟨g, 5, none⟩ = some (.int .u8 (z.legs : Int)) ∧ w.cell? ⟨g, 6, none⟩ = some (.int .u8 (z.til : Int)) :=
  ⟨cell_of_row w g 0 _ _ _ h, cell_of_row w g 1 _ _ _ h, cell_of_row w g 2 _ _ _ h, cell_of_row w g 3 _ _ _ h, cell_of_row w g 4 _ _ _ h, cell_of_row w g 5 _ _ _ h, cell_of_row w g 6 _ _ _ h⟩

theorem beq_refl_bool (b : Bool) : (b == b) = true := beq_self_eq_true b
theorem Rq7.a0 {w : World} {g : Nat} {t : TypeId} {x0 x1 x2 x3 x4 x5 x6 : Int} (h : Rq7 w g t x0 x1 x2 x3 x4 x5 x6) (hg : g < w.heap.size) : ∀ p : After w, p.world.cell? ⟨g, 0, none⟩ = some (.int .i64 x0) := fun p => (h.below p.below hg).cells.1
theorem Rq7.a1 {w : World} {g : Nat} {t : TypeId} {x0 x1 x2 x3 x4 x5 x6 : Int} (h : Rq7 w g t x0 x1 x2 x3 x4 x5 x6) (hg : g < w.heap.size) : ∀ p : After w, p.world.cell? ⟨g, 1, none⟩ = some (.int .i64 x1) := fun p => (h.below p.below hg).cells.2.1
theorem Rq7.a2 {w : World} {g : Nat} {t : TypeId} {x0 x1 x2 x3 x4 x5 x6 : Int} (h : Rq7 w g t x0 x1 x2 x3 x4 x5 x6) (hg : g < w.heap.size) : ∀ p : After w, p.world.cell? ⟨g, 2, none⟩ = some (.int .i64 x2) := fun p => (h.below p.below hg).cells.2.2.1
theorem Rq7.a3 {w : World} {g : Nat} {t : TypeId} {x0 x1 x2 x3 x4 x5 x6 : Int} (h : Rq7 w g t x0 x1 x2 x3 x4 x5 x6) (hg : g < w.heap.size) : ∀ p : After w, p.world.cell? ⟨g, 3, none⟩ = some (.int .i64 x3) := fun p => (h.below p.below hg).cells.2.2.2.1
theorem Rq7.a4 {w : World} {g : Nat} {t : TypeId} {x0 x1 x2 x3 x4 x5 x6 : Int} (h : Rq7 w g t x0 x1 x2 x3 x4 x5 x6) (hg : g < w.heap.size) : ∀ p : After w, p.world.cell? ⟨g, 4, none⟩ = some (.int .i64 x4) := fun p => (h.below p.below hg).cells.2.2.2.2.1
theorem Rq7.a5 {w : World} {g : Nat} {t : TypeId} {x0 x1 x2 x3 x4 x5 x6 : Int} (h : Rq7 w g t x0 x1 x2 x3 x4 x5 x6) (hg : g < w.heap.size) : ∀ p : After w, p.world.cell? ⟨g, 5, none⟩ = some (.int .i64 x5) := fun p => (h.below p.below hg).cells.2.2.2.2.2.1
theorem Rq7.a6 {w : World} {g : Nat} {t : TypeId} {x0 x1 x2 x3 x4 x5 x6 : Int} (h : Rq7 w g t x0 x1 x2 x3 x4 x5 x6) (hg : g < w.heap.size) : ∀ p : After w, p.world.cell? ⟨g, 6, none⟩ = some (.int .i64 x6) := fun p => (h.below p.below hg).cells.2.2.2.2.2.2
theorem Rq7.drew {w : World} {g : Nat} {t : TypeId} {x0 x1 x2 x3 x4 x5 x6 : Int} (h : Rq7 w g t x0 x1 x2 x3 x4 x5 x6) : Rq7 w.drew g t x0 x1 x2 x3 x4 x5 x6 := h
/-- Op and Legs laid anew. -/
theorem Rq7.set15 {w : World} {g : Nat} {t : TypeId} {x0 x1 x2 x3 x4 x5 x6 : Int} (h : Rq7 w g t x0 x1 x2 x3 x4 x5 x6) (y1 y5 : Int) : Rq7 ((w.setCell ⟨g, 1, none⟩ (.int .i64 y1)).setCell ⟨g, 5, none⟩ (.int .i64 y5)) g t x0 y1 x2 x3 x4 y5 x6 := by
  unfold Rq7 at h ⊢
  simp [World.setCell, Array.getElem?_modify, h]
end Go.Proofs.Ytenepkhglgfpaaa
