/-
  Which sagas are right: plain words.
-/
import Derived.Test.YteifgmdaggiaaaaGreatDoorWGrB
namespace Go.Proofs.YteifgmdaggiaaaaGreatDoor
open Go Go.RowKit
set_option linter.unusedVariables false
/-- How many legs are missing. -/
def missS (s : Sg) : Int := if s.leg < s.rq.legs then s.rq.legs - s.leg else 0
/-- How often the next leg may have refused. -/
def mtS (s : Sg) : Int := if missS s = 0 then 0 else 3
def rightPhS (s : Sg) : Prop := if s.ph = 0 then s.why = 0 ∧ s.tries ≤ mtS s else if s.ph = 1 then s.why ≠ 0 else False
instance (s : Sg) : Decidable (rightPhS s) := by unfold rightPhS; exact inferInstance
/-- Which sagas may be. -/
def rightSg (s : Sg) : Prop := (0 ≤ s.rq.legs ∧ s.rq.legs ≤ 4) ∧ (0 ≤ s.leg ∧ s.leg ≤ s.rq.legs) ∧ (0 ≤ s.tries ∧ s.tries ≤ 4) ∧ rightPhS s
instance (s : Sg) : Decidable (rightSg s) := by unfold rightSg; exact inferInstance
end Go.Proofs.YteifgmdaggiaaaaGreatDoor
