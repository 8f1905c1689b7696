/-
  The document's examples of layer 7 hold; the first accounts of a slice.
-/
import Derived.Test.YtpcpocgagfpbhaaChartRight
import Derived.Test.YtpcpocgagfpbhaaChartOf
namespace Go.Proofs.Ytpcpocgagfpbhaa
open Go Go.RowKit
set_option linter.unusedVariables false

theorem acc_slice : Try.prog.underlying 28 = some (.slice (Try.prog.elem 28)) := by kernel_rfl
theorem acc_size (W : World) : (sizeOf (Try.prog.elem 28)).run Try.prog W = .ok 3 W := by kernel_rfl
theorem run_frontAcc (W : World) (A : Option Addr) (n c k : Nat) (hk : k ≤ c) : (Instr.sliceAt 28 (.slice A n c) none (some (.int .i64 (k : Int))) none).run Try.prog W = .ok (.slice A k c) W := by
  rw [run_sliceAt_slice _ _ _ _ _ _ acc_slice, run_slice_h W _ _ _ _ acc_slice _ _ (by omega) (by omega), acc_size]
  have e : (A.map fun x => x.add 0) = A := by cases A <;> simp [Addr.add]
  simp [Result.andThen, sliced, e]

set_option maxRecDepth 100000 in
theorem awake_ok (w : World) : Calls Try.prog 9 #[] w fun e w' => e = .returned (.bool true) ∧ Below w.heap.size w w' := by
  go_enter Try.func9, Try.ntmps9
  go_wp2_with fail
  refine (new_any w).mono ?_
  rintro e w1 ⟨v, rfl, ho, hb⟩
  obtain ⟨g, cap, hv, hg1, hg2, hnc, hcm⟩ := ho.open_ (by decide)
  have hl : house.length = 9 := rfl
  rw [hl] at hv hnc
  subst hv
  have c5 : w1.cell? ⟨g, 15, none⟩ = some (.int .i64 1) := (ho.at_ (j := 5) (a := ⟨1, 0, 0⟩) rfl).1
  have HR := Lib.hid (fun W (hbw : Below w1.heap.size w1 W) => right_any (some ⟨g, 0, none⟩) 9 cap house W rfl (ho.below hbw).rd (by omega))
  rw [house_right] at HR
  have HB := Lib.hid hb
  have hsz := hb.size
  clear ho hb hl
  go_wp2_with (first
    | (go_at_call 15; refine (number_some 2 1 _ (by omega) (by omega) (by omega) (by omega)).mono ?_; rintro e w2 ⟨rfl, rfl⟩)
    | (go_at_call 11; refine (HR.out _ (Below.refl _ _)).mono ?_; rintro e w2 ⟨rfl, hb2⟩))
  go_ret
  exact ⟨rfl, HB.out.trans (hb2.mono hsz)⟩
end Go.Proofs.Ytpcpocgagfpbhaa
