/-
  Slices of payments: their shape and cells.
-/
import Derived.Test.YtdepidemciigkaaPayArg
import Derived.Test.YtdepidemciigkaaShape
namespace Go.Proofs.Ytdepidemciigkaa
open Go Go.RowKit
set_option linter.unusedVariables false

theorem info_pay : (Try.prog.info? 33).map (fun i => (i.zero, i.size, i.bytes)) = some (some (.agg #[.int .i64 0, .int .i64 0, .int .i64 0, .int .i64 0, .int .i64 0, .int .i64 0, .int .i64 0, .int .i64 0]), 8, 64) := by kernel_rfl
def pays : Shape Py := ⟨8, 33, Py.cells, by omega, fun _ => rfl, fun a u hu => by
  simp only [Py.cells, List.mem_cons, List.not_mem_nil, or_false] at hu
  rcases hu with rfl | rfl | rfl | rfl | rfl | rfl | rfl | rfl <;> rfl⟩
/-- The cells of the payment at j. -/
theorem pay_cells {w : World} {ad : Addr} {j : Nat} {k : Py} (h : AtS pays w ad j k) :
    w.cell? (ad.add (j * 8)) = some (.int .i64 k.frm) ∧
    w.cell? ⟨(ad.add (j * 8)).block, (ad.add (j * 8)).off + 1, none⟩ = some (.int .i64 k.dst) ∧
    w.cell? ⟨(ad.add (j * 8)).block, (ad.add (j * 8)).off + 2, none⟩ = some (.int .i64 k.aut) ∧
    w.cell? ⟨(ad.add (j * 8)).block, (ad.add (j * 8)).off + 3, none⟩ = some (.int .i64 k.cap) ∧
    w.cell? ⟨(ad.add (j * 8)).block, (ad.add (j * 8)).off + 4, none⟩ = some (.int .i64 k.ref) ∧
    w.cell? ⟨(ad.add (j * 8)).block, (ad.add (j * 8)).off + 5, none⟩ = some (.int .i64 k.chg) ∧
    w.cell? ⟨(ad.add (j * 8)).block, (ad.add (j * 8)).off + 6, none⟩ = some (.int .i64 k.til) ∧
    w.cell? ⟨(ad.add (j * 8)).block, (ad.add (j * 8)).off + 7, none⟩ = some (.int .i64 k.stg) := by
  refine ⟨h 0 _ rfl, ?_, ?_, ?_, ?_, ?_, ?_, ?_⟩ <;> rw [← add_next _ _ _ (by omega)]
  · exact h 1 _ rfl
  · exact h 2 _ rfl
  · exact h 3 _ rfl
  · exact h 4 _ rfl
  · exact h 5 _ rfl
  · exact h 6 _ rfl
  · exact h 7 _ rfl
theorem pay_slice : Try.prog.underlying 23 = some (.slice (Try.prog.elem 23)) := by kernel_rfl
theorem pay_size (W : World) : (sizeOf (Try.prog.elem 23)).run Try.prog W = .ok 8 W := by kernel_rfl
theorem run_frontPay (W : World) (A : Option Addr) (n c k : Nat) (hk : k ≤ c) : (Instr.sliceAt 23 (.slice A n c) none (some (.int .i64 (k : Int))) none).run Try.prog W = .ok (.slice A k c) W := by
  rw [run_sliceAt_slice _ _ _ _ _ _ pay_slice, run_slice_h W _ _ _ _ pay_slice _ _ (by omega) (by omega), pay_size]
  have e : (A.map fun x => x.add 0) = A := by cases A <;> simp [Addr.add]
  simp [Result.andThen, sliced, e]
end Go.Proofs.Ytdepidemciigkaa
