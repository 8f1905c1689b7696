/-
  A request's cells in a block; a struct as a named result beside two plain ones.
-/
import Derived.Test.YtjphkpohcgkcmaaGreatDoorGrB
import Derived.Test.YtjphkpohcgkcmaaGreatDoorProg
import Derived.Laws.Rows
import Derived.Laws.ResultCell
namespace Go.Proofs.YtjphkpohcgkcmaaGreatDoor
open Go Go.RowKit
set_option linter.unusedVariables false

/-- A request's cells in a block. -/
def Rq7 (w : World) (g : Nat) (t : TypeId) (x0 x1 x2 x3 x4 x5 x6 : Int) : Prop := w.heap[g]? = some (.cells #[.int .i64 x0, .int .i64 x1, .int .i64 x2, .int .i64 x3, .int .i64 x4, .int .i64 x5, .int .i64 x6] t (0, 0))
theorem Rq7.new (w : World) (t : TypeId) (x0 x1 x2 x3 x4 x5 x6 : Int) : Rq7 (w.alloc (.cells #[.int .i64 x0, .int .i64 x1, .int .i64 x2, .int .i64 x3, .int .i64 x4, .int .i64 x5, .int .i64 x6] t)) w.heap.size t x0 x1 x2 x3 x4 x5 x6 := heap_alloc_new w _
theorem Rq7.below {w w' : World} {B g : Nat} {t : TypeId} {x0 x1 x2 x3 x4 x5 x6 : Int} (h : Rq7 w g t x0 x1 x2 x3 x4 x5 x6) (hb : Below B w w') (hg : g < B) : Rq7 w' g t x0 x1 x2 x3 x4 x5 x6 := (hb.block g hg).trans h
theorem Rq7.alloc {w : World} {g : Nat} {t : TypeId} {x0 x1 x2 x3 x4 x5 x6 : Int} (h : Rq7 w g t x0 x1 x2 x3 x4 x5 x6) (o : Obj) (hg : g < w.heap.size) : Rq7 (w.alloc o) g t x0 x1 x2 x3 x4 x5 x6 := (Below.heap_alloc w o g hg).trans h
theorem Rq7.cells {w : World} {g : Nat} {t : TypeId} {x0 x1 x2 x3 x4 x5 x6 : Int} (h : Rq7 w g t x0 x1 x2 x3 x4 x5 x6) : w.cell? ⟨g, 0, none⟩ = some (.int .i64 x0) ∧ w.cell? ⟨g, 1, none⟩ = some (.int .i64 x1) ∧ w.cell? ⟨g, 2, none⟩ = some (.int .i64 x2) ∧ w.cell? ⟨g, 3, none⟩ = some (.int .i64 x3) ∧ w.cell? ⟨g, 4, none⟩ = some (.int .i64 x4) ∧ w.cell? ⟨g, 5, none⟩ = some (.int .i64 x5) ∧ w.cell? ⟨g, 6, none⟩ = some (.int .i64 x6) :=
  ⟨cell_of_row w g 0 _ _ _ h, cell_of_row w g 1 _ _ _ h, cell_of_row w g 2 _ _ _ h, cell_of_row w g 3 _ _ _ h, cell_of_row w g 4 _ _ _ h, cell_of_row w g 5 _ _ _ h, cell_of_row w g 6 _ _ _ h⟩
theorem Rq7.loose {w : World} {g : Nat} {t : TypeId} {x0 x1 x2 x3 x4 x5 x6 : Int} (h : Rq7 w g t x0 x1 x2 x3 x4 x5 x6) : w.frozen? ⟨g, 0, none⟩ = false ∧ w.frozen? ⟨g, 1, none⟩ = false ∧ w.frozen? ⟨g, 2, none⟩ = false ∧ w.frozen? ⟨g, 3, none⟩ = false ∧ w.frozen? ⟨g, 4, none⟩ = false ∧ w.frozen? ⟨g, 5, none⟩ = false ∧ w.frozen? ⟨g, 6, none⟩ = false :=
  ⟨frozen_of_row w g 0 _ _ h, frozen_of_row w g 1 _ _ h, frozen_of_row w g 2 _ _ h, frozen_of_row w g 3 _ _ h, frozen_of_row w g 4 _ _ h, frozen_of_row w g 5 _ _ h, frozen_of_row w g 6 _ _ h⟩
theorem Rq7.drew {w : World} {g : Nat} {t : TypeId} {x0 x1 x2 x3 x4 x5 x6 : Int} (h : Rq7 w g t x0 x1 x2 x3 x4 x5 x6) : Rq7 w.drew g t x0 x1 x2 x3 x4 x5 x6 := h
/-- All seven laid anew. -/
theorem Rq7.put {w : World} {g : Nat} {t : TypeId} {x0 x1 x2 x3 x4 x5 x6 : Int} (h : Rq7 w g t x0 x1 x2 x3 x4 x5 x6) (y0 y1 y2 y3 y4 y5 y6 : Int) : Rq7 (((((((w.setCell ⟨g, 0, none⟩ (.int .i64 y0)).setCell ⟨g, 1, none⟩ (.int .i64 y1)).setCell ⟨g, 2, none⟩ (.int .i64 y2)).setCell ⟨g, 3, none⟩ (.int .i64 y3)).setCell ⟨g, 4, none⟩ (.int .i64 y4)).setCell ⟨g, 5, none⟩ (.int .i64 y5)).setCell ⟨g, 6, none⟩ (.int .i64 y6)) g t y0 y1 y2 y3 y4 y5 y6 := by
  unfold Rq7 at h ⊢
  simp [World.setCell, Array.getElem?_modify, h]
theorem Rq7.put_below {w w' : World} {B g : Nat} (h : Below B w w') (hg : B ≤ g) (y0 y1 y2 y3 y4 y5 y6 : Int) : Below B w (((((((w'.setCell ⟨g, 0, none⟩ (.int .i64 y0)).setCell ⟨g, 1, none⟩ (.int .i64 y1)).setCell ⟨g, 2, none⟩ (.int .i64 y2)).setCell ⟨g, 3, none⟩ (.int .i64 y3)).setCell ⟨g, 4, none⟩ (.int .i64 y4)).setCell ⟨g, 5, none⟩ (.int .i64 y5)).setCell ⟨g, 6, none⟩ (.int .i64 y6)) :=
  (((((((h.setCell (p := ⟨g, 0, none⟩) hg _).setCell (p := ⟨g, 1, none⟩) hg _).setCell (p := ⟨g, 2, none⟩) hg _).setCell (p := ⟨g, 3, none⟩) hg _).setCell (p := ⟨g, 4, none⟩) hg _).setCell (p := ⟨g, 5, none⟩) hg _).setCell (p := ⟨g, 6, none⟩) hg _)

theorem results_row3 {P : Program} {fn : Func} {p x y : Tmp} {ty : TypeId} (h : fn.results = #[.cell p ty, .tmp x, .tmp y]) (tmps : Array Value) (w : World) (g : Nat) (t : TypeId) (cs : Array Value) (fr : Nat × Nat) (d : TypeDesc)
    (hp : tmps.getD p undef = .pointer (some ⟨g, 0, none⟩)) (hg : w.heap[g]? = some (.cells cs t fr))
    (hu : P.underlying ty = some d) (hd : (match d with | .struct _ | .array _ _ => true | _ => false) = true) (hi : (P.info? ty).map (·.size) = some cs.size) :
    (results fn tmps).run P w = .ok (.tuple #[.agg cs, tmps.getD x undef, tmps.getD y undef]) w := by
  have hp' : tmps[p]?.getD undef = .pointer (some ⟨g, 0, none⟩) := by simpa using hp
  simp [results, h, hp', asAddr, run_loadVar_row w g t ty cs fr d hg hu hd hi, Result.andThen]


/-- A reply's cells in a block. -/
def Rq2 (w : World) (g : Nat) (t : TypeId) (x0 x1 : Int) : Prop := w.heap[g]? = some (.cells #[.int .i64 x0, .int .i64 x1] t (0, 0))
theorem Rq2.new (w : World) (t : TypeId) (x0 x1 : Int) : Rq2 (w.alloc (.cells #[.int .i64 x0, .int .i64 x1] t)) w.heap.size t x0 x1 := heap_alloc_new w _
theorem Rq2.below {w w' : World} {B g : Nat} {t : TypeId} {x0 x1 : Int} (h : Rq2 w g t x0 x1) (hb : Below B w w') (hg : g < B) : Rq2 w' g t x0 x1 := (hb.block g hg).trans h
theorem Rq2.cells {w : World} {g : Nat} {t : TypeId} {x0 x1 : Int} (h : Rq2 w g t x0 x1) : w.cell? ⟨g, 0, none⟩ = some (.int .i64 x0) ∧ w.cell? ⟨g, 1, none⟩ = some (.int .i64 x1) :=
  ⟨cell_of_row w g 0 _ _ _ h, cell_of_row w g 1 _ _ _ h⟩
theorem Rq2.loose {w : World} {g : Nat} {t : TypeId} {x0 x1 : Int} (h : Rq2 w g t x0 x1) : w.frozen? ⟨g, 0, none⟩ = false ∧ w.frozen? ⟨g, 1, none⟩ = false :=
  ⟨frozen_of_row w g 0 _ _ h, frozen_of_row w g 1 _ _ h⟩
theorem Rq2.alloc {w : World} {g : Nat} {t : TypeId} {x0 x1 : Int} (h : Rq2 w g t x0 x1) (o : Obj) (hg : g < w.heap.size) : Rq2 (w.alloc o) g t x0 x1 := (Below.heap_alloc w o g hg).trans h
theorem Rq2.drew {w : World} {g : Nat} {t : TypeId} {x0 x1 : Int} (h : Rq2 w g t x0 x1) : Rq2 w.drew g t x0 x1 := h
/-- Both laid anew. -/
theorem Rq2.put {w : World} {g : Nat} {t : TypeId} {x0 x1 : Int} (h : Rq2 w g t x0 x1) (y0 y1 : Int) : Rq2 ((w.setCell ⟨g, 0, none⟩ (.int .i64 y0)).setCell ⟨g, 1, none⟩ (.int .i64 y1)) g t y0 y1 := by
  unfold Rq2 at h ⊢
  simp [World.setCell, Array.getElem?_modify, h]
theorem Rq2.put_below {w w' : World} {B g : Nat} (h : Below B w w') (hg : B ≤ g) (y0 y1 : Int) : Below B w ((w'.setCell ⟨g, 0, none⟩ (.int .i64 y0)).setCell ⟨g, 1, none⟩ (.int .i64 y1)) :=
  (h.setCell (p := ⟨g, 0, none⟩) hg _).setCell (p := ⟨g, 1, none⟩) hg _

theorem results_row2 {P : Program} {fn : Func} {p x : Tmp} {ty : TypeId} (h : fn.results = #[.cell p ty, .tmp x]) (tmps : Array Value) (w : World) (g : Nat) (t : TypeId) (cs : Array Value) (fr : Nat × Nat) (d : TypeDesc)
    (hp : tmps.getD p undef = .pointer (some ⟨g, 0, none⟩)) (hg : w.heap[g]? = some (.cells cs t fr))
    (hu : P.underlying ty = some d) (hd : (match d with | .struct _ | .array _ _ => true | _ => false) = true) (hi : (P.info? ty).map (·.size) = some cs.size) :
    (results fn tmps).run P w = .ok (.tuple #[.agg cs, tmps.getD x undef]) w := by
  have hp' : tmps[p]?.getD undef = .pointer (some ⟨g, 0, none⟩) := by simpa using hp
  simp [results, h, hp', asAddr, run_loadVar_row w g t ty cs fr d hg hu hd hi, Result.andThen]
end Go.Proofs.YtjphkpohcgkcmaaGreatDoor
