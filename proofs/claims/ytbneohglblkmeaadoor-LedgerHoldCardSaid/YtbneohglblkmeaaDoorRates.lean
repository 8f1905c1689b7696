/-
  money.Rates by its contract: the document's nine rates, in new memory.
-/
import Derived.Test.YtbneohglblkmeaaDoorMoneyOps
import Derived.Test.YtbneohglblkmeaaDoorStore
import Derived.Deep.RegionHeld3
namespace Go.Proofs.YtbneohglblkmeaaDoor
open Go.RowKit

/-- The rates, as they lie in memory, and as the call hands them back. -/
def ratesC : Array Value := #[.int .i64 1, .int .i64 1, .int .i64 9, .int .i64 10, .int .i64 150, .int .i64 1, .int .i64 11, .int .i64 10, .int .i64 1, .int .i64 1, .int .i64 160, .int .i64 1, .int .i64 1, .int .i64 151, .int .i64 1, .int .i64 161, .int .i64 1, .int .i64 1]
theorem info40 : (Tryd.prog.info? 97).map (·.size) = some ratesC.size := by kernel_rfl

theorem ixr0 (w : World) : (Instr.index 97 (.agg ratesC) (.int .u8 0)).run Tryd.prog w = .ok (.agg #[.int .i64 1, .int .i64 1, .int .i64 9, .int .i64 10, .int .i64 150, .int .i64 1]) w := by kernel_rfl
theorem ixr1 (w : World) : (Instr.index 97 (.agg ratesC) (.int .u8 1)).run Tryd.prog w = .ok (.agg #[.int .i64 11, .int .i64 10, .int .i64 1, .int .i64 1, .int .i64 160, .int .i64 1]) w := by kernel_rfl
theorem ixr2 (w : World) : (Instr.index 97 (.agg ratesC) (.int .u8 2)).run Tryd.prog w = .ok (.agg #[.int .i64 1, .int .i64 151, .int .i64 1, .int .i64 161, .int .i64 1, .int .i64 1]) w := by kernel_rfl
theorem ixr00 (w : World) : (Instr.index 96 (.agg #[.int .i64 1, .int .i64 1, .int .i64 9, .int .i64 10, .int .i64 150, .int .i64 1]) (.int .u8 0)).run Tryd.prog w = .ok (.agg #[.int .i64 1, .int .i64 1]) w := by kernel_rfl
theorem ixr01 (w : World) : (Instr.index 96 (.agg #[.int .i64 1, .int .i64 1, .int .i64 9, .int .i64 10, .int .i64 150, .int .i64 1]) (.int .u8 1)).run Tryd.prog w = .ok (.agg #[.int .i64 9, .int .i64 10]) w := by kernel_rfl
theorem ixr02 (w : World) : (Instr.index 96 (.agg #[.int .i64 1, .int .i64 1, .int .i64 9, .int .i64 10, .int .i64 150, .int .i64 1]) (.int .u8 2)).run Tryd.prog w = .ok (.agg #[.int .i64 150, .int .i64 1]) w := by kernel_rfl
theorem ixr10 (w : World) : (Instr.index 96 (.agg #[.int .i64 11, .int .i64 10, .int .i64 1, .int .i64 1, .int .i64 160, .int .i64 1]) (.int .u8 0)).run Tryd.prog w = .ok (.agg #[.int .i64 11, .int .i64 10]) w := by kernel_rfl
theorem ixr11 (w : World) : (Instr.index 96 (.agg #[.int .i64 11, .int .i64 10, .int .i64 1, .int .i64 1, .int .i64 160, .int .i64 1]) (.int .u8 1)).run Tryd.prog w = .ok (.agg #[.int .i64 1, .int .i64 1]) w := by kernel_rfl
theorem ixr12 (w : World) : (Instr.index 96 (.agg #[.int .i64 11, .int .i64 10, .int .i64 1, .int .i64 1, .int .i64 160, .int .i64 1]) (.int .u8 2)).run Tryd.prog w = .ok (.agg #[.int .i64 160, .int .i64 1]) w := by kernel_rfl
theorem ixr20 (w : World) : (Instr.index 96 (.agg #[.int .i64 1, .int .i64 151, .int .i64 1, .int .i64 161, .int .i64 1, .int .i64 1]) (.int .u8 0)).run Tryd.prog w = .ok (.agg #[.int .i64 1, .int .i64 151]) w := by kernel_rfl
theorem ixr21 (w : World) : (Instr.index 96 (.agg #[.int .i64 1, .int .i64 151, .int .i64 1, .int .i64 161, .int .i64 1, .int .i64 1]) (.int .u8 1)).run Tryd.prog w = .ok (.agg #[.int .i64 1, .int .i64 161]) w := by kernel_rfl
theorem ixr22 (w : World) : (Instr.index 96 (.agg #[.int .i64 1, .int .i64 151, .int .i64 1, .int .i64 161, .int .i64 1, .int .i64 1]) (.int .u8 2)).run Tryd.prog w = .ok (.agg #[.int .i64 1, .int .i64 1]) w := by kernel_rfl

theorem rates_ret (w : World) : Calls Tryd.prog 46 #[] w fun e w' => e = .returned (.agg ratesC) ∧ w' = w.alloc (.cells ratesC 97) := by
  go_enter Tryd.func46, Tryd.ntmps46
  go_wp2_with (with_reducible refine wpList_store_new rfl 97 (.tmp 0) (.tmp 13) rfl _ ratesC 97 rfl rfl info40 rfl rfl ?_)
  refine bodyPost_ret (v := .agg ratesC) ?_ rfl ⟨rfl, rfl⟩
  exact results_cell_row rfl _ _ w.heap.size 97 ratesC (0, 0) _ rfl (heap_alloc_new w _) Tryd.underlying97 rfl info40
end Go.Proofs.YtbneohglblkmeaaDoor
