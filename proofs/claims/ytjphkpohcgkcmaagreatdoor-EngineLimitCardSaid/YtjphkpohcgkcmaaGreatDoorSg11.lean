/-
  A saga: its cells in a block.
-/
import Derived.Test.YtjphkpohcgkcmaaGreatDoorGrA
import Derived.Test.YtjphkpohcgkcmaaGreatDoorProg
import Derived.Laws.Rows
import Derived.Laws.ResultCell
namespace Go.Proofs.YtjphkpohcgkcmaaGreatDoor
open Go Go.RowKit
set_option linter.unusedVariables false

def Sg11 (w : World) (g : Nat) (t : TypeId) (x0 x1 x2 x3 x4 x5 x6 x7 x8 x9 x10 : Int) : Prop := w.heap[g]? = some (.cells #[.int .i64 x0, .int .i64 x1, .int .i64 x2, .int .i64 x3, .int .i64 x4, .int .i64 x5, .int .i64 x6, .int .i64 x7, .int .i64 x8, .int .i64 x9, .int .i64 x10] t (0, 0))
theorem Sg11.new (w : World) (t : TypeId) (x0 x1 x2 x3 x4 x5 x6 x7 x8 x9 x10 : Int) : Sg11 (w.alloc (.cells #[.int .i64 x0, .int .i64 x1, .int .i64 x2, .int .i64 x3, .int .i64 x4, .int .i64 x5, .int .i64 x6, .int .i64 x7, .int .i64 x8, .int .i64 x9, .int .i64 x10] t)) w.heap.size t x0 x1 x2 x3 x4 x5 x6 x7 x8 x9 x10 := heap_alloc_new w _
theorem Sg11.below {w w' : World} {B g : Nat} {t : TypeId} {x0 x1 x2 x3 x4 x5 x6 x7 x8 x9 x10 : Int} (h : Sg11 w g t x0 x1 x2 x3 x4 x5 x6 x7 x8 x9 x10) (hb : Below B w w') (hg : g < B) : Sg11 w' g t x0 x1 x2 x3 x4 x5 x6 x7 x8 x9 x10 := (hb.block g hg).trans h
theorem Sg11.alloc {w : World} {g : Nat} {t : TypeId} {x0 x1 x2 x3 x4 x5 x6 x7 x8 x9 x10 : Int} (h : Sg11 w g t x0 x1 x2 x3 x4 x5 x6 x7 x8 x9 x10) (o : Obj) (hg : g < w.heap.size) : Sg11 (w.alloc o) g t x0 x1 x2 x3 x4 x5 x6 x7 x8 x9 x10 := (Below.heap_alloc w o g hg).trans h
theorem Sg11.lt {w : World} {g : Nat} {t : TypeId} {x0 x1 x2 x3 x4 x5 x6 x7 x8 x9 x10 : Int} (h : Sg11 w g t x0 x1 x2 x3 x4 x5 x6 x7 x8 x9 x10) : g < w.heap.size := (Array.getElem?_eq_some_iff.1 h).1
theorem Sg11.cells {w : World} {g : Nat} {t : TypeId} {x0 x1 x2 x3 x4 x5 x6 x7 x8 x9 x10 : Int} (h : Sg11 w g t x0 x1 x2 x3 x4 x5 x6 x7 x8 x9 x10) : w.cell? ⟨g, 0, none⟩ = some (.int .i64 x0) ∧ w.cell? ⟨g, 1, none⟩ = some (.int .i64 x1) ∧ w.cell? ⟨g, 2, none⟩ = some (.int .i64 x2) ∧ w.cell? ⟨g, 3, none⟩ = some (.int .i64 x3) ∧ w.cell? ⟨g, 4, none⟩ = some (.int .i64 x4) ∧ w.cell? ⟨g, 5, none⟩ = some (.int .i64 x5) ∧ w.cell? ⟨g, 6, none⟩ = some (.int .i64 x6) ∧ w.cell? ⟨g, 7, none⟩ = some (.int .i64 x7) ∧ w.cell? ⟨g, 8, none⟩ = some (.int .i64 x8) ∧ w.cell? ⟨g, 9, none⟩ = some (.int .i64 x9) ∧ w.cell? ⟨g, 10, none⟩ = some (.int .i64 x10) :=
  ⟨cell_of_row w g 0 _ _ _ h, cell_of_row w g 1 _ _ _ h, cell_of_row w g 2 _ _ _ h, cell_of_row w g 3 _ _ _ h, cell_of_row w g 4 _ _ _ h, cell_of_row w g 5 _ _ _ h, cell_of_row w g 6 _ _ _ h, cell_of_row w g 7 _ _ _ h, cell_of_row w g 8 _ _ _ h, cell_of_row w g 9 _ _ _ h, cell_of_row w g 10 _ _ _ h⟩
theorem Sg11.loose {w : World} {g : Nat} {t : TypeId} {x0 x1 x2 x3 x4 x5 x6 x7 x8 x9 x10 : Int} (h : Sg11 w g t x0 x1 x2 x3 x4 x5 x6 x7 x8 x9 x10) : w.frozen? ⟨g, 0, none⟩ = false ∧ w.frozen? ⟨g, 1, none⟩ = false ∧ w.frozen? ⟨g, 2, none⟩ = false ∧ w.frozen? ⟨g, 3, none⟩ = false ∧ w.frozen? ⟨g, 4, none⟩ = false ∧ w.frozen? ⟨g, 5, none⟩ = false ∧ w.frozen? ⟨g, 6, none⟩ = false ∧ w.frozen? ⟨g, 7, none⟩ = false ∧ w.frozen? ⟨g, 8, none⟩ = false ∧ w.frozen? ⟨g, 9, none⟩ = false ∧ w.frozen? ⟨g, 10, none⟩ = false :=
  ⟨frozen_of_row w g 0 _ _ h, frozen_of_row w g 1 _ _ h, frozen_of_row w g 2 _ _ h, frozen_of_row w g 3 _ _ h, frozen_of_row w g 4 _ _ h, frozen_of_row w g 5 _ _ h, frozen_of_row w g 6 _ _ h, frozen_of_row w g 7 _ _ h, frozen_of_row w g 8 _ _ h, frozen_of_row w g 9 _ _ h, frozen_of_row w g 10 _ _ h⟩
theorem Sg11.drew {w : World} {g : Nat} {t : TypeId} {x0 x1 x2 x3 x4 x5 x6 x7 x8 x9 x10 : Int} (h : Sg11 w g t x0 x1 x2 x3 x4 x5 x6 x7 x8 x9 x10) : Sg11 w.drew g t x0 x1 x2 x3 x4 x5 x6 x7 x8 x9 x10 := h
theorem Sg11.set0 {w : World} {g : Nat} {t : TypeId} {x0 x1 x2 x3 x4 x5 x6 x7 x8 x9 x10 : Int} (h : Sg11 w g t x0 x1 x2 x3 x4 x5 x6 x7 x8 x9 x10) (y : Int) : Sg11 (w.setCell ⟨g, 0, none⟩ (.int .i64 y)) g t y x1 x2 x3 x4 x5 x6 x7 x8 x9 x10 := by
  unfold Sg11 at h ⊢
  simp [World.setCell, Array.getElem?_modify, h]
theorem Sg11.set1 {w : World} {g : Nat} {t : TypeId} {x0 x1 x2 x3 x4 x5 x6 x7 x8 x9 x10 : Int} (h : Sg11 w g t x0 x1 x2 x3 x4 x5 x6 x7 x8 x9 x10) (y : Int) : Sg11 (w.setCell ⟨g, 1, none⟩ (.int .i64 y)) g t x0 y x2 x3 x4 x5 x6 x7 x8 x9 x10 := by
  unfold Sg11 at h ⊢
  simp [World.setCell, Array.getElem?_modify, h]
theorem Sg11.set2 {w : World} {g : Nat} {t : TypeId} {x0 x1 x2 x3 x4 x5 x6 x7 x8 x9 x10 : Int} (h : Sg11 w g t x0 x1 x2 x3 x4 x5 x6 x7 x8 x9 x10) (y : Int) : Sg11 (w.setCell ⟨g, 2, none⟩ (.int .i64 y)) g t x0 x1 y x3 x4 x5 x6 x7 x8 x9 x10 := by
  unfold Sg11 at h ⊢
  simp [World.setCell, Array.getElem?_modify, h]
theorem Sg11.set3 {w : World} {g : Nat} {t : TypeId} {x0 x1 x2 x3 x4 x5 x6 x7 x8 x9 x10 : Int} (h : Sg11 w g t x0 x1 x2 x3 x4 x5 x6 x7 x8 x9 x10) (y : Int) : Sg11 (w.setCell ⟨g, 3, none⟩ (.int .i64 y)) g t x0 x1 x2 y x4 x5 x6 x7 x8 x9 x10 := by
  unfold Sg11 at h ⊢
  simp [World.setCell, Array.getElem?_modify, h]
theorem Sg11.set4 {w : World} {g : Nat} {t : TypeId} {x0 x1 x2 x3 x4 x5 x6 x7 x8 x9 x10 : Int} (h : Sg11 w g t x0 x1 x2 x3 x4 x5 x6 x7 x8 x9 x10) (y : Int) : Sg11 (w.setCell ⟨g, 4, none⟩ (.int .i64 y)) g t x0 x1 x2 x3 y x5 x6 x7 x8 x9 x10 := by
  unfold Sg11 at h ⊢
  simp [World.setCell, Array.getElem?_modify, h]
theorem Sg11.set5 {w : World} {g : Nat} {t : TypeId} {x0 x1 x2 x3 x4 x5 x6 x7 x8 x9 x10 : Int} (h : Sg11 w g t x0 x1 x2 x3 x4 x5 x6 x7 x8 x9 x10) (y : Int) : Sg11 (w.setCell ⟨g, 5, none⟩ (.int .i64 y)) g t x0 x1 x2 x3 x4 y x6 x7 x8 x9 x10 := by
  unfold Sg11 at h ⊢
  simp [World.setCell, Array.getElem?_modify, h]
theorem Sg11.set6 {w : World} {g : Nat} {t : TypeId} {x0 x1 x2 x3 x4 x5 x6 x7 x8 x9 x10 : Int} (h : Sg11 w g t x0 x1 x2 x3 x4 x5 x6 x7 x8 x9 x10) (y : Int) : Sg11 (w.setCell ⟨g, 6, none⟩ (.int .i64 y)) g t x0 x1 x2 x3 x4 x5 y x7 x8 x9 x10 := by
  unfold Sg11 at h ⊢
  simp [World.setCell, Array.getElem?_modify, h]
theorem Sg11.set7 {w : World} {g : Nat} {t : TypeId} {x0 x1 x2 x3 x4 x5 x6 x7 x8 x9 x10 : Int} (h : Sg11 w g t x0 x1 x2 x3 x4 x5 x6 x7 x8 x9 x10) (y : Int) : Sg11 (w.setCell ⟨g, 7, none⟩ (.int .i64 y)) g t x0 x1 x2 x3 x4 x5 x6 y x8 x9 x10 := by
  unfold Sg11 at h ⊢
  simp [World.setCell, Array.getElem?_modify, h]
theorem Sg11.set8 {w : World} {g : Nat} {t : TypeId} {x0 x1 x2 x3 x4 x5 x6 x7 x8 x9 x10 : Int} (h : Sg11 w g t x0 x1 x2 x3 x4 x5 x6 x7 x8 x9 x10) (y : Int) : Sg11 (w.setCell ⟨g, 8, none⟩ (.int .i64 y)) g t x0 x1 x2 x3 x4 x5 x6 x7 y x9 x10 := by
  unfold Sg11 at h ⊢
  simp [World.setCell, Array.getElem?_modify, h]
theorem Sg11.set9 {w : World} {g : Nat} {t : TypeId} {x0 x1 x2 x3 x4 x5 x6 x7 x8 x9 x10 : Int} (h : Sg11 w g t x0 x1 x2 x3 x4 x5 x6 x7 x8 x9 x10) (y : Int) : Sg11 (w.setCell ⟨g, 9, none⟩ (.int .i64 y)) g t x0 x1 x2 x3 x4 x5 x6 x7 x8 y x10 := by
  unfold Sg11 at h ⊢
  simp [World.setCell, Array.getElem?_modify, h]
theorem Sg11.set10 {w : World} {g : Nat} {t : TypeId} {x0 x1 x2 x3 x4 x5 x6 x7 x8 x9 x10 : Int} (h : Sg11 w g t x0 x1 x2 x3 x4 x5 x6 x7 x8 x9 x10) (y : Int) : Sg11 (w.setCell ⟨g, 10, none⟩ (.int .i64 y)) g t x0 x1 x2 x3 x4 x5 x6 x7 x8 x9 y := by
  unfold Sg11 at h ⊢
  simp [World.setCell, Array.getElem?_modify, h]
theorem Sg11.setOther {w : World} {g : Nat} {t : TypeId} {x0 x1 x2 x3 x4 x5 x6 x7 x8 x9 x10 : Int} (h : Sg11 w g t x0 x1 x2 x3 x4 x5 x6 x7 x8 x9 x10) {b : Nat} (hb : b ≠ g) (i : Nat) (y : Int) : Sg11 (w.setCell ⟨b, i, none⟩ (.int .i64 y)) g t x0 x1 x2 x3 x4 x5 x6 x7 x8 x9 x10 := by
  unfold Sg11 at h ⊢
  simp [World.setCell, Array.getElem?_modify, h, hb]
theorem Sg11.put {w : World} {g : Nat} {t : TypeId} {x0 x1 x2 x3 x4 x5 x6 x7 x8 x9 x10 : Int} (h : Sg11 w g t x0 x1 x2 x3 x4 x5 x6 x7 x8 x9 x10) (y0 y1 y2 y3 y4 y5 y6 y7 y8 y9 y10 : Int) : Sg11 (((((((((((w.setCell ⟨g, 0, none⟩ (.int .i64 y0)).setCell ⟨g, 1, none⟩ (.int .i64 y1)).setCell ⟨g, 2, none⟩ (.int .i64 y2)).setCell ⟨g, 3, none⟩ (.int .i64 y3)).setCell ⟨g, 4, none⟩ (.int .i64 y4)).setCell ⟨g, 5, none⟩ (.int .i64 y5)).setCell ⟨g, 6, none⟩ (.int .i64 y6)).setCell ⟨g, 7, none⟩ (.int .i64 y7)).setCell ⟨g, 8, none⟩ (.int .i64 y8)).setCell ⟨g, 9, none⟩ (.int .i64 y9)).setCell ⟨g, 10, none⟩ (.int .i64 y10)) g t y0 y1 y2 y3 y4 y5 y6 y7 y8 y9 y10 := by
  unfold Sg11 at h ⊢
  simp [World.setCell, Array.getElem?_modify, h]
theorem Sg11.put_below {w w' : World} {B g : Nat} (h : Below B w w') (hg : B ≤ g) (y0 y1 y2 y3 y4 y5 y6 y7 y8 y9 y10 : Int) : Below B w (((((((((((w'.setCell ⟨g, 0, none⟩ (.int .i64 y0)).setCell ⟨g, 1, none⟩ (.int .i64 y1)).setCell ⟨g, 2, none⟩ (.int .i64 y2)).setCell ⟨g, 3, none⟩ (.int .i64 y3)).setCell ⟨g, 4, none⟩ (.int .i64 y4)).setCell ⟨g, 5, none⟩ (.int .i64 y5)).setCell ⟨g, 6, none⟩ (.int .i64 y6)).setCell ⟨g, 7, none⟩ (.int .i64 y7)).setCell ⟨g, 8, none⟩ (.int .i64 y8)).setCell ⟨g, 9, none⟩ (.int .i64 y9)).setCell ⟨g, 10, none⟩ (.int .i64 y10)) :=
  (((((((((((h.setCell (p := ⟨g, 0, none⟩) hg _).setCell (p := ⟨g, 1, none⟩) hg _).setCell (p := ⟨g, 2, none⟩) hg _).setCell (p := ⟨g, 3, none⟩) hg _).setCell (p := ⟨g, 4, none⟩) hg _).setCell (p := ⟨g, 5, none⟩) hg _).setCell (p := ⟨g, 6, none⟩) hg _).setCell (p := ⟨g, 7, none⟩) hg _).setCell (p := ⟨g, 8, none⟩) hg _).setCell (p := ⟨g, 9, none⟩) hg _).setCell (p := ⟨g, 10, none⟩) hg _)
theorem Sg11.put_other {w : World} {g b : Nat} (hb : g ≠ b) (y0 y1 y2 y3 y4 y5 y6 y7 y8 y9 y10 : Int) : (((((((((((w.setCell ⟨g, 0, none⟩ (.int .i64 y0)).setCell ⟨g, 1, none⟩ (.int .i64 y1)).setCell ⟨g, 2, none⟩ (.int .i64 y2)).setCell ⟨g, 3, none⟩ (.int .i64 y3)).setCell ⟨g, 4, none⟩ (.int .i64 y4)).setCell ⟨g, 5, none⟩ (.int .i64 y5)).setCell ⟨g, 6, none⟩ (.int .i64 y6)).setCell ⟨g, 7, none⟩ (.int .i64 y7)).setCell ⟨g, 8, none⟩ (.int .i64 y8)).setCell ⟨g, 9, none⟩ (.int .i64 y9)).setCell ⟨g, 10, none⟩ (.int .i64 y10)).heap[b]? = w.heap[b]? := by
  simp [World.setCell, Array.getElem?_modify, hb]
theorem Sg11.put_size {w : World} {g : Nat} (y0 y1 y2 y3 y4 y5 y6 y7 y8 y9 y10 : Int) : (((((((((((w.setCell ⟨g, 0, none⟩ (.int .i64 y0)).setCell ⟨g, 1, none⟩ (.int .i64 y1)).setCell ⟨g, 2, none⟩ (.int .i64 y2)).setCell ⟨g, 3, none⟩ (.int .i64 y3)).setCell ⟨g, 4, none⟩ (.int .i64 y4)).setCell ⟨g, 5, none⟩ (.int .i64 y5)).setCell ⟨g, 6, none⟩ (.int .i64 y6)).setCell ⟨g, 7, none⟩ (.int .i64 y7)).setCell ⟨g, 8, none⟩ (.int .i64 y8)).setCell ⟨g, 9, none⟩ (.int .i64 y9)).setCell ⟨g, 10, none⟩ (.int .i64 y10)).heap.size = w.heap.size := by simp
theorem Sg11.after {w : World} {g : Nat} {t : TypeId} {x0 x1 x2 x3 x4 x5 x6 x7 x8 x9 x10 : Int} (h : Sg11 w g t x0 x1 x2 x3 x4 x5 x6 x7 x8 x9 x10) (hg : g < w.heap.size) :
    (∀ p : After w, p.world.cell? ⟨g, 0, none⟩ = some (.int .i64 x0)) ∧
    (∀ p : After w, p.world.cell? ⟨g, 1, none⟩ = some (.int .i64 x1)) ∧
    (∀ p : After w, p.world.cell? ⟨g, 2, none⟩ = some (.int .i64 x2)) ∧
    (∀ p : After w, p.world.cell? ⟨g, 3, none⟩ = some (.int .i64 x3)) ∧
    (∀ p : After w, p.world.cell? ⟨g, 4, none⟩ = some (.int .i64 x4)) ∧
    (∀ p : After w, p.world.cell? ⟨g, 5, none⟩ = some (.int .i64 x5)) ∧
    (∀ p : After w, p.world.cell? ⟨g, 6, none⟩ = some (.int .i64 x6)) ∧
    (∀ p : After w, p.world.cell? ⟨g, 7, none⟩ = some (.int .i64 x7)) ∧
    (∀ p : After w, p.world.cell? ⟨g, 8, none⟩ = some (.int .i64 x8)) ∧
    (∀ p : After w, p.world.cell? ⟨g, 9, none⟩ = some (.int .i64 x9)) ∧
    (∀ p : After w, p.world.cell? ⟨g, 10, none⟩ = some (.int .i64 x10)) :=
  ⟨fun p => (h.below p.below hg).cells.1, fun p => (h.below p.below hg).cells.2.1, fun p => (h.below p.below hg).cells.2.2.1, fun p => (h.below p.below hg).cells.2.2.2.1, fun p => (h.below p.below hg).cells.2.2.2.2.1, fun p => (h.below p.below hg).cells.2.2.2.2.2.1, fun p => (h.below p.below hg).cells.2.2.2.2.2.2.1, fun p => (h.below p.below hg).cells.2.2.2.2.2.2.2.1, fun p => (h.below p.below hg).cells.2.2.2.2.2.2.2.2.1, fun p => (h.below p.below hg).cells.2.2.2.2.2.2.2.2.2.1, fun p => (h.below p.below hg).cells.2.2.2.2.2.2.2.2.2.2⟩
end Go.Proofs.YtjphkpohcgkcmaaGreatDoor
