/-
  Slices of bools.
-/
import Derived.Test.YteifgmdaggiaaaaGreatDoorProg
import Derived.Test.YteifgmdaggiaaaaGreatDoorQGrA
namespace Go.Proofs.YteifgmdaggiaaaaGreatDoor
open Go Go.RowKit Go.ChangeShapes Go.WideShapes Go.Deep Go.Joins
set_option linter.unusedVariables false
/-- A slice of bools. -/
def flags : Shape Bool := ⟨1, 4, fun b => [.bool b], by omega, fun _ => rfl, fun a u hu => by
  simp only [List.mem_cons, List.not_mem_nil, or_false] at hu
  subst hu
  rfl⟩
theorem flag_cell {w : World} {ad : Addr} {j : Nat} {b : Bool} (h : AtS flags w ad j b) : w.cell? (ad.add j) = some (.bool b) := by
 have := h 0 _ rfl
 rw [show flags.size = 1 from rfl, Nat.mul_one, Nat.add_zero] at this
 exact this
end Go.Proofs.YteifgmdaggiaaaaGreatDoor
