/-
  A payment's cells in a block; a struct as a named result.
-/
import Derived.Test.YtdepidemciigkaaWords
import Derived.Test.YtdepidemciigkaaProg
import Derived.Laws.Rows
import Derived.Laws.ResultCell
namespace Go.Proofs.Ytdepidemciigkaa
open Go Go.RowKit
set_option linter.unusedVariables false

/-- A payment's cells in a block. -/
def Py8 (w : World) (g : Nat) (t : TypeId) (x0 x1 x2 x3 x4 x5 x6 x7 : Int) : Prop := w.heap[g]? = some (.cells #[.int .i64 x0, .int .i64 x1, .int .i64 x2, .int .i64 x3, .int .i64 x4, .int .i64 x5, .int .i64 x6, .int .i64 x7] t (0, 0))
theorem Py8.new (w : World) (t : TypeId) (x0 x1 x2 x3 x4 x5 x6 x7 : Int) : Py8 (w.alloc (.cells #[.int .i64 x0, .int .i64 x1, .int .i64 x2, .int .i64 x3, .int .i64 x4, .int .i64 x5, .int .i64 x6, .int .i64 x7] t)) w.heap.size t x0 x1 x2 x3 x4 x5 x6 x7 := heap_alloc_new w _
theorem Py8.below {w w' : World} {B g : Nat} {t : TypeId} {x0 x1 x2 x3 x4 x5 x6 x7 : Int} (h : Py8 w g t x0 x1 x2 x3 x4 x5 x6 x7) (hb : Below B w w') (hg : g < B) : Py8 w' g t x0 x1 x2 x3 x4 x5 x6 x7 := (hb.block g hg).trans h
theorem Py8.alloc {w : World} {g : Nat} {t : TypeId} {x0 x1 x2 x3 x4 x5 x6 x7 : Int} (h : Py8 w g t x0 x1 x2 x3 x4 x5 x6 x7) (o : Obj) (hg : g < w.heap.size) : Py8 (w.alloc o) g t x0 x1 x2 x3 x4 x5 x6 x7 := (Below.heap_alloc w o g hg).trans h
theorem Py8.cells {w : World} {g : Nat} {t : TypeId} {x0 x1 x2 x3 x4 x5 x6 x7 : Int} (h : Py8 w g t x0 x1 x2 x3 x4 x5 x6 x7) : w.cell? ⟨g, 0, none⟩ = some (.int .i64 x0) ∧ w.cell? ⟨g, 1, none⟩ = some (.int .i64 x1) ∧ w.cell? ⟨g, 2, none⟩ = some (.int .i64 x2) ∧ w.cell? ⟨g, 3, none⟩ = some (.int .i64 x3) ∧ w.cell? ⟨g, 4, none⟩ = some (.int .i64 x4) ∧ w.cell? ⟨g, 5, none⟩ = some (.int .i64 x5) ∧ w.cell? ⟨g, 6, none⟩ = some (.int .i64 x6) ∧ w.cell? ⟨g, 7, none⟩ = some (.int .i64 x7) :=
  ⟨cell_of_row w g 0 _ _ _ h, cell_of_row w g 1 _ _ _ h, cell_of_row w g 2 _ _ _ h, cell_of_row w g 3 _ _ _ h, cell_of_row w g 4 _ _ _ h, cell_of_row w g 5 _ _ _ h, cell_of_row w g 6 _ _ _ h, cell_of_row w g 7 _ _ _ h⟩
theorem Py8.loose {w : World} {g : Nat} {t : TypeId} {x0 x1 x2 x3 x4 x5 x6 x7 : Int} (h : Py8 w g t x0 x1 x2 x3 x4 x5 x6 x7) : w.frozen? ⟨g, 0, none⟩ = false ∧ w.frozen? ⟨g, 1, none⟩ = false ∧ w.frozen? ⟨g, 2, none⟩ = false ∧ w.frozen? ⟨g, 3, none⟩ = false ∧ w.frozen? ⟨g, 4, none⟩ = false ∧ w.frozen? ⟨g, 5, none⟩ = false ∧ w.frozen? ⟨g, 6, none⟩ = false ∧ w.frozen? ⟨g, 7, none⟩ = false :=
  ⟨frozen_of_row w g 0 _ _ h, frozen_of_row w g 1 _ _ h, frozen_of_row w g 2 _ _ h, frozen_of_row w g 3 _ _ h, frozen_of_row w g 4 _ _ h, frozen_of_row w g 5 _ _ h, frozen_of_row w g 6 _ _ h, frozen_of_row w g 7 _ _ h⟩
theorem Py8.drew {w : World} {g : Nat} {t : TypeId} {x0 x1 x2 x3 x4 x5 x6 x7 : Int} (h : Py8 w g t x0 x1 x2 x3 x4 x5 x6 x7) : Py8 w.drew g t x0 x1 x2 x3 x4 x5 x6 x7 := h
/-- One cell laid anew. -/
theorem Py8.set0 {w : World} {g : Nat} {t : TypeId} {x0 x1 x2 x3 x4 x5 x6 x7 : Int} (h : Py8 w g t x0 x1 x2 x3 x4 x5 x6 x7) (y : Int) : Py8 (w.setCell ⟨g, 0, none⟩ (.int .i64 y)) g t y x1 x2 x3 x4 x5 x6 x7 := by
  unfold Py8 at h ⊢
  simp [World.setCell, Array.getElem?_modify, h]
theorem Py8.set1 {w : World} {g : Nat} {t : TypeId} {x0 x1 x2 x3 x4 x5 x6 x7 : Int} (h : Py8 w g t x0 x1 x2 x3 x4 x5 x6 x7) (y : Int) : Py8 (w.setCell ⟨g, 1, none⟩ (.int .i64 y)) g t x0 y x2 x3 x4 x5 x6 x7 := by
  unfold Py8 at h ⊢
  simp [World.setCell, Array.getElem?_modify, h]
theorem Py8.set2 {w : World} {g : Nat} {t : TypeId} {x0 x1 x2 x3 x4 x5 x6 x7 : Int} (h : Py8 w g t x0 x1 x2 x3 x4 x5 x6 x7) (y : Int) : Py8 (w.setCell ⟨g, 2, none⟩ (.int .i64 y)) g t x0 x1 y x3 x4 x5 x6 x7 := by
  unfold Py8 at h ⊢
  simp [World.setCell, Array.getElem?_modify, h]
theorem Py8.set3 {w : World} {g : Nat} {t : TypeId} {x0 x1 x2 x3 x4 x5 x6 x7 : Int} (h : Py8 w g t x0 x1 x2 x3 x4 x5 x6 x7) (y : Int) : Py8 (w.setCell ⟨g, 3, none⟩ (.int .i64 y)) g t x0 x1 x2 y x4 x5 x6 x7 := by
  unfold Py8 at h ⊢
  simp [World.setCell, Array.getElem?_modify, h]
theorem Py8.set4 {w : World} {g : Nat} {t : TypeId} {x0 x1 x2 x3 x4 x5 x6 x7 : Int} (h : Py8 w g t x0 x1 x2 x3 x4 x5 x6 x7) (y : Int) : Py8 (w.setCell ⟨g, 4, none⟩ (.int .i64 y)) g t x0 x1 x2 x3 y x5 x6 x7 := by
  unfold Py8 at h ⊢
  simp [World.setCell, Array.getElem?_modify, h]
theorem Py8.set5 {w : World} {g : Nat} {t : TypeId} {x0 x1 x2 x3 x4 x5 x6 x7 : Int} (h : Py8 w g t x0 x1 x2 x3 x4 x5 x6 x7) (y : Int) : Py8 (w.setCell ⟨g, 5, none⟩ (.int .i64 y)) g t x0 x1 x2 x3 x4 y x6 x7 := by
  unfold Py8 at h ⊢
  simp [World.setCell, Array.getElem?_modify, h]
theorem Py8.set6 {w : World} {g : Nat} {t : TypeId} {x0 x1 x2 x3 x4 x5 x6 x7 : Int} (h : Py8 w g t x0 x1 x2 x3 x4 x5 x6 x7) (y : Int) : Py8 (w.setCell ⟨g, 6, none⟩ (.int .i64 y)) g t x0 x1 x2 x3 x4 x5 y x7 := by
  unfold Py8 at h ⊢
  simp [World.setCell, Array.getElem?_modify, h]
theorem Py8.set7 {w : World} {g : Nat} {t : TypeId} {x0 x1 x2 x3 x4 x5 x6 x7 : Int} (h : Py8 w g t x0 x1 x2 x3 x4 x5 x6 x7) (y : Int) : Py8 (w.setCell ⟨g, 7, none⟩ (.int .i64 y)) g t x0 x1 x2 x3 x4 x5 x6 y := by
  unfold Py8 at h ⊢
  simp [World.setCell, Array.getElem?_modify, h]
/-- A cell of another block laid anew. -/
theorem Py8.setOther {w : World} {g : Nat} {t : TypeId} {x0 x1 x2 x3 x4 x5 x6 x7 : Int} (h : Py8 w g t x0 x1 x2 x3 x4 x5 x6 x7) {b : Nat} (hb : b ≠ g) (i : Nat) (y : Int) : Py8 (w.setCell ⟨b, i, none⟩ (.int .i64 y)) g t x0 x1 x2 x3 x4 x5 x6 x7 := by
  unfold Py8 at h ⊢
  simp [World.setCell, Array.getElem?_modify, h, hb]
/-- All eight laid anew. -/
theorem Py8.put {w : World} {g : Nat} {t : TypeId} {x0 x1 x2 x3 x4 x5 x6 x7 : Int} (h : Py8 w g t x0 x1 x2 x3 x4 x5 x6 x7) (y0 y1 y2 y3 y4 y5 y6 y7 : Int) : Py8 ((((((((w.setCell ⟨g, 0, none⟩ (.int .i64 y0)).setCell ⟨g, 1, none⟩ (.int .i64 y1)).setCell ⟨g, 2, none⟩ (.int .i64 y2)).setCell ⟨g, 3, none⟩ (.int .i64 y3)).setCell ⟨g, 4, none⟩ (.int .i64 y4)).setCell ⟨g, 5, none⟩ (.int .i64 y5)).setCell ⟨g, 6, none⟩ (.int .i64 y6)).setCell ⟨g, 7, none⟩ (.int .i64 y7)) g t y0 y1 y2 y3 y4 y5 y6 y7 := by
  unfold Py8 at h ⊢
  simp [World.setCell, Array.getElem?_modify, h]
theorem Py8.put_below {w w' : World} {B g : Nat} (h : Below B w w') (hg : B ≤ g) (y0 y1 y2 y3 y4 y5 y6 y7 : Int) : Below B w ((((((((w'.setCell ⟨g, 0, none⟩ (.int .i64 y0)).setCell ⟨g, 1, none⟩ (.int .i64 y1)).setCell ⟨g, 2, none⟩ (.int .i64 y2)).setCell ⟨g, 3, none⟩ (.int .i64 y3)).setCell ⟨g, 4, none⟩ (.int .i64 y4)).setCell ⟨g, 5, none⟩ (.int .i64 y5)).setCell ⟨g, 6, none⟩ (.int .i64 y6)).setCell ⟨g, 7, none⟩ (.int .i64 y7)) :=
  ((((((((h.setCell (p := ⟨g, 0, none⟩) hg _).setCell (p := ⟨g, 1, none⟩) hg _).setCell (p := ⟨g, 2, none⟩) hg _).setCell (p := ⟨g, 3, none⟩) hg _).setCell (p := ⟨g, 4, none⟩) hg _).setCell (p := ⟨g, 5, none⟩) hg _).setCell (p := ⟨g, 6, none⟩) hg _).setCell (p := ⟨g, 7, none⟩) hg _)

theorem results_pay {P : Program} {fn : Func} {p x : Tmp} {ty : TypeId} (h : fn.results = #[.cell p ty, .tmp x]) (tmps : Array Value) (w : World) (g : Nat) (t : TypeId) (cs : Array Value) (fr : Nat × Nat) (d : TypeDesc)
    (hp : tmps.getD p undef = .pointer (some ⟨g, 0, none⟩)) (hg : w.heap[g]? = some (.cells cs t fr))
    (hu : P.underlying ty = some d) (hd : (match d with | .struct _ | .array _ _ => true | _ => false) = true) (hi : (P.info? ty).map (·.size) = some cs.size) :
    (results fn tmps).run P w = .ok (.tuple #[.agg cs, tmps.getD x undef]) w := by
  have hp' : tmps[p]?.getD undef = .pointer (some ⟨g, 0, none⟩) := by simpa using hp
  simp [results, h, hp', asAddr, run_loadVar_row w g t ty cs fr d hg hu hd hi, Result.andThen]
end Go.Proofs.Ytdepidemciigkaa
