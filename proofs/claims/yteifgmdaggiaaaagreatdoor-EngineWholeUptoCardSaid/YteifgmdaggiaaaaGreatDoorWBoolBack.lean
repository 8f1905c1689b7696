/-
  A slice of answers, cut in front; it stays when a state is stored.
-/
import Derived.Test.YteifgmdaggiaaaaGreatDoorWBankOn
import Derived.Deep.CutRange
namespace Go.Proofs.YteifgmdaggiaaaaGreatDoor
open Go Go.RowKit
set_option linter.unusedVariables false
theorem bools_slice : Tryz.prog.underlying 28 = some (.slice (Tryz.prog.elem 28)) := by kernel_rfl
theorem bools_size (W : World) : (sizeOf (Tryz.prog.elem 28)).run Tryz.prog W = .ok 1 W := by kernel_rfl
theorem run_backb (W : World) (A : Option Addr) (n c k : Nat) (hk : k ≤ n) : (Instr.sliceAt 28 (.slice A n c) (some (.int .i64 (k : Int))) none none).run Tryz.prog W = .ok (.slice (if c = k then A else A.map (·.add k)) (n - k) (c - k)) W := by
 rw [run_sliceAt_slice _ _ _ _ _ _ bools_slice, run_slice_l W _ _ _ _ bools_slice _ _ (by omega) (by omega), bools_size]
 simp [Result.andThen, sliced]
theorem flags_drop {w : World} {A : Option Addr} {ls : List Bool} {n c k : Nat} (h : RdS flags w A ls) (hn : ls.length = n) (hc : n ≤ c) (hk : k ≤ n) : RdS flags w (if c = k then A else A.map (·.add k)) (ls.drop k) := fun h0 => by
 rw [List.length_drop] at h0
 obtain ⟨ad, he, hx⟩ := h (by omega)
 rw [if_neg (by omega), he]
 refine ⟨ad.add k, rfl, fun j a hj i u hu => ?_⟩
 rw [List.getElem?_drop] at hj
 have := hx (k + j) a hj i u hu
 rw [show flags.size = 1 from rfl] at this ⊢
 rw [add_add, show k + (j * 1 + i) = (k + j) * 1 + i by omega]
 exact this
end Go.Proofs.YteifgmdaggiaaaaGreatDoor
