/-
  A []bool of the call's own, by its block.
-/
import Derived.Test.YtdepidemciigkaaWords
import Derived.Test.YtdepidemciigkaaSlices
import Derived.Test.YtdepidemciigkaaProg
import Derived.Laws.Rows
import Derived.Deep.OwnRows
namespace Go.Proofs.Ytdepidemciigkaa
open Go Go.RowKit
set_option linter.unusedVariables false

def TkAt (w : World) (g : Nat) (tk : List Bool) : Prop := w.heap[g]? = some (.cells (tk.map Value.bool).toArray 4 (0, 0))
theorem TkAt.cell {w : World} {g : Nat} {tk : List Bool} (h : TkAt w g tk) {k : Nat} (hk : k < tk.length) : w.cell? ⟨g, k, none⟩ = some (.bool (tk.getD k false)) := by
  refine (cell_of_row w g k _ _ (0, 0) h).trans ?_
  simp [List.getD, hk]
theorem TkAt.loose {w : World} {g : Nat} {tk : List Bool} (h : TkAt w g tk) (k : Nat) : w.frozen? ⟨g, k, none⟩ = false := frozen_of_row w g k _ _ h
theorem TkAt.below {w w' : World} {B g : Nat} {tk : List Bool} (h : TkAt w g tk) (hb : Below B w w') (hg : g < B) : TkAt w' g tk := (hb.block g hg).trans h
theorem TkAt.alloc {w : World} {g : Nat} {tk : List Bool} (h : TkAt w g tk) (o : Obj) (hg : g < w.heap.size) : TkAt (w.alloc o) g tk := (Below.heap_alloc w o g hg).trans h
theorem TkAt.grown {w w' : World} {g : Nat} {tk : List Bool} {r : Option Nat} (h : TkAt w g tk) (hg : w.grownBy w' r) (hne : r ≠ some g) (hlt : g < w.heap.size) : TkAt w' g tk := (hg.block g hlt (fun e => hne e.symm)).trans h
theorem TkAt.set {w : World} {g : Nat} {tk : List Bool} (h : TkAt w g tk) (i : Nat) : TkAt (w.setCell ⟨g, i, none⟩ (.bool true)) g (tk.set i true) := by
  unfold TkAt at h ⊢
  simp [World.setCell, Array.getElem?_modify, h, List.map_set]
theorem TkAt.made (w : World) (n : Nat) : TkAt (w.alloc (.cells (madeCells #[.bool false] n) 4)) w.heap.size (List.replicate n false) := by
  unfold TkAt
  rw [heap_alloc_new]
  congr 2
  apply Array.ext'
  apply List.ext_getElem?
  intro j
  by_cases hj : j < n
  · simp [madeCells, hj, Nat.mod_one]
  · simp [madeCells, hj]
theorem info_flag : (Try.prog.info? 4).map (fun i => (i.zero, i.size, i.bytes)) = some (some (.bool false), 1, 1) := by kernel_rfl
theorem run_make_flags (n : Nat) (hn : n ≤ 140737488355328) (W : World) : (Instr.makeSlice 45 (.int .i64 (n : Int)) (.int .i64 (n : Int))).run Try.prog W = .ok (.slice (some ⟨W.heap.size, 0, none⟩) n n) (W.alloc (.cells (madeCells #[.bool false] n) 4)) := by
  obtain ⟨i0, hi, hz0, hz1, hz2⟩ := info_parts info_flag
  have h := run_make (P := Try.prog) W 45 4 i0 (.bool false) Try.underlying45 hi hz0 .i64 .i64 (n : Int) (n : Int) (by omega) (by omega) (by rw [hz2]; omega) (by omega)
  rw [hz1] at h
  have e2 : ((n : Int)).toNat = n := by omega
  rw [e2, Nat.mul_one] at h
  exact h
end Go.Proofs.Ytdepidemciigkaa
