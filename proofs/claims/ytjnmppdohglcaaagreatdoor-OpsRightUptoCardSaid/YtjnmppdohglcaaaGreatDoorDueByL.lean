/-
  Those whose time is over.
-/
import Derived.Test.YtjnmppdohglcaaaGreatDoorDuePlain
namespace Go.Proofs.YtjnmppdohglcaaaGreatDoor
open Go Go.RowKit

/-- Those whose time is over. -/
def byL (ps : List Py) (now : Int) (out : List Int) : List Int := out.takeWhile fun a => decide (tilP ps a ≤ now)
end Go.Proofs.YtjnmppdohglcaaaGreatDoor
