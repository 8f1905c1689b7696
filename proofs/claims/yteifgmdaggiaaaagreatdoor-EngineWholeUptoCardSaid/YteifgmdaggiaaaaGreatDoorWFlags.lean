/-
  Slices of bools.
-/
import Derived.Test.YteifgmdaggiaaaaGreatDoorProg
import Derived.Test.YteifgmdaggiaaaaGreatDoorWGrA
namespace Go.Proofs.YteifgmdaggiaaaaGreatDoor
open Go Go.RowKit Go.ChangeShapes Go.WideShapes Go.Deep Go.Joins
set_option linter.unusedVariables false
/-- A slice of bools. -/
def flags : Shape Bool := ⟨1, 4, fun b => [.bool b], by omega, fun _ => rfl, fun a u hu => by
  simp only [List.mem_cons, List.not_mem_nil, or_false] at hu
  subst hu
  rfl⟩
theorem flag_cell {w : World} {ad : Addr} {j : Nat} {b : Bool} (h : AtS flags w ad j b) : w.cell? (ad.add j) = some (.bool b) := by
 have := h 0 _ rfl
 rw [show flags.size = 1 from rfl, Nat.mul_one, Nat.add_zero] at this
 exact this
theorem flag_of {H : Type} {enc : TypeId × Value → H} {w : World} {base fuel : Nat} {spare : Nat → Bool} {held : Bool} {cs : List Value} {x : DataW H × List MemPlace} (h : DataW.trod enc Tryz.prog w base spare held fuel 4 cs = some x) : ∃ b : Bool, True ∧ cs = flags.cells b := by
 obtain ⟨m, e, _⟩ := DataW.trod_bool Tryz.underlying4 h
 exact ⟨m, trivial, e⟩
end Go.Proofs.YteifgmdaggiaaaaGreatDoor
