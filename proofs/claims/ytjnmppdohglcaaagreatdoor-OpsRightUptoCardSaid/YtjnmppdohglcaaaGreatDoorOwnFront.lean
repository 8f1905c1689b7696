/-
  The first of the ints of a slice of the call's own, in the same memory; []int sliced.
-/
import Derived.Test.YtjnmppdohglcaaaGreatDoorOwnAt
import Derived.Test.YtjnmppdohglcaaaGreatDoorProg
import Derived.WalkKit
namespace Go.Proofs.YtjnmppdohglcaaaGreatDoor
open Go Go.RowKit
set_option linter.unusedVariables false

theorem Own.front {e : TypeId} {k : IntKind} {w : World} {base g n cap : Nat} {zs : List Int} (h : Own e k w base (.slice (some ⟨g, 0, none⟩) n cap) n zs) (j : Nat) (hj : j ≤ n) : Own e k w base (.slice (some ⟨g, 0, none⟩) j cap) j (zs.take j) := by
  have hl := h.len
  refine ⟨by rw [List.length_map, List.length_take]; omega, ?_⟩
  rcases h.2 with ⟨h0, _⟩ | ⟨g', cap', cur, hv, hb, hg, hnc, hcm, hs, ht⟩
  · cases h0
  · injection hv with e1 e2 e3
    injection e1 with e1
    injection e1 with e1
    subst e1 e3
    refine .inr ⟨g, cap, cur, rfl, hb, hg, by omega, hcm, hs, ?_⟩
    have h2 := congrArg (List.take (j * 1)) ht
    rw [List.take_take, Nat.min_eq_left (by omega)] at h2
    rw [h2, List.map_take, Nat.mul_one]
theorem ints_slice : Tryz.prog.underlying 61 = some (.slice (Tryz.prog.elem 61)) := by kernel_rfl
theorem ints_size (W : World) : (sizeOf (Tryz.prog.elem 61)).run Tryz.prog W = .ok 1 W := by kernel_rfl
theorem run_frontInts (W : World) (A : Option Addr) (n c k : Nat) (hk : k ≤ c) : (Instr.sliceAt 61 (.slice A n c) none (some (.int .i64 (k : Int))) none).run Tryz.prog W = .ok (.slice A k c) W := by
  rw [run_sliceAt_slice _ _ _ _ _ _ ints_slice, run_slice_h W _ _ _ _ ints_slice _ _ (by omega) (by omega), ints_size]
  have e : (A.map fun x => x.add 0) = A := by cases A <;> simp [Addr.add]
  simp [Result.andThen, sliced, e]
end Go.Proofs.YtjnmppdohglcaaaGreatDoor
