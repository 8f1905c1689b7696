/-
  The state and the request of the layers' examples.
-/
import Derived.Test.YteifgmdaggiaaaaGreatDoorWBankTwo
import Derived.Test.YteifgmdaggiaaaaGreatDoorWOpsState
namespace Go.Proofs.YteifgmdaggiaaaaGreatDoor
open Go Go.RowKit
set_option linter.unusedVariables false
def rw1 : Rq := ⟨1, 2, 9, 12, 5, 1, 0⟩
def sw0 : St := ⟨bookTo (curs6 [] 0) [500, 500, 500, 500] [] 6, [], 0⟩
theorem sw0_fits : Fits sw0 [] [] := ⟨by kernel_rfl, by decide, by decide, by decide⟩
theorem lit4 (w : World) : Rd .u32 (w.alloc (.cells #[.int .u32 500, .int .u32 500, .int .u32 500, .int .u32 500] 88)) (some ⟨w.heap.size, 0, none⟩) 4 (ints [500, 500, 500, 500]) := by
 refine ⟨rfl, fun _ => ⟨_, rfl, fun j hj => ?_⟩⟩
 have hb := Blk.new w 88 #[.int .u32 500, .int .u32 500, .int .u32 500, .int .u32 500]
 have hadd : (⟨w.heap.size, 0, none⟩ : Addr).add j = ⟨w.heap.size, j, none⟩ := by unfold Addr.add; split <;> simp_all
 rw [hadd]
 match j, hj with
 | 0, _ => exact hb.cell 0 rfl
 | 1, _ => exact hb.cell 1 rfl
 | 2, _ => exact hb.cell 2 rfl
 | 3, _ => exact hb.cell 3 rfl
end Go.Proofs.YteifgmdaggiaaaaGreatDoor
