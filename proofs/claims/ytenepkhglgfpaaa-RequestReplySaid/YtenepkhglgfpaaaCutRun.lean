/-
  b[:k] and b[k:] of a []byte: one run each, whatever the address (nil too).
-/
import Derived.Test.YtenepkhglgfpaaaInts
import Derived.WalkKit
namespace Go.Proofs.Ytenepkhglgfpaaa
open Go.RowKit

theorem byte_slice : Try.prog.underlying 32 = some (.slice (Try.prog.elem 32)) := by kernel_rfl
theorem byte_size (W : World) : (sizeOf (Try.prog.elem 32)).run Try.prog W = .ok 1 W := by kernel_rfl

theorem run_front (W : World) (A : Option Addr) (n c k : Nat) (hk : k ≤ c) : (Instr.sliceAt 32 (.slice A n c) none (some (.int .i64 (k : Int))) none).run Try.prog W = .ok (.slice A k c) W := by
  rw [run_sliceAt_slice _ _ _ _ _ _ byte_slice, run_slice_h W _ _ _ _ byte_slice _ _ (by omega) (by omega), byte_size]
  have e : (A.map fun x => x.add 0) = A := by cases A <;> simp [Addr.add]
  simp [Result.andThen, sliced, e]
theorem run_back (W : World) (A : Option Addr) (n c k : Nat) (hk : k ≤ n) : (Instr.sliceAt 32 (.slice A n c) (some (.int .i64 (k : Int))) none none).run Try.prog W = .ok (.slice (if c = k then A else A.map (·.add k)) (n - k) (c - k)) W := by
  rw [run_sliceAt_slice _ _ _ _ _ _ byte_slice, run_slice_l W _ _ _ _ byte_slice _ _ (by omega) (by omega), byte_size]
  simp [Result.andThen, sliced]
end Go.Proofs.Ytenepkhglgfpaaa
