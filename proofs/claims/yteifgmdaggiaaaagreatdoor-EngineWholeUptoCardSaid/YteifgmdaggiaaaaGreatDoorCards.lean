/-
  DERIVED. GIVEN WITH THE SEED: THE CARDS: each row of YteifgmdaggiaaaaGreatDoorRows.lean that lists a variable, with what it lists TIED to the program's text (the seventh form; the later family's looks); each row that meets fmt, with fmt's text TOLD by the authors' own Lean function (tested against real Go, not proved from fmt's source: count such statements apart). THE CARD IS WHAT COUNTS. Prove the row's statement (the work); the ties are given (YteifgmdaggiaaaaGreatDoorTie.lean); close each card by the builder's one call (the guide's Derived/Test/ToyasCard.lean, 'card_holds'). Laid BY PROGRAM, IN A SANDBOX (cutbox-door.mjs). By AI agents, Wed Nov 11 2026. No macro, syntax, notation, axiom, sorry.
-/
import Derived.Test.YteifgmdaggiaaaaGreatDoorRows
import GoSem.ClaimSeven
namespace Go.Proofs.YteifgmdaggiaaaaGreatDoor
namespace Rows

/-- THE TIED CARD OF 'hawalalaw17.EngineWhole'. -/
def engineWholeCard : Claim7 := { stood := { row := engineWholeRow, standIns := [], harness := (true, "ef3daf79b38d8ccf3b1c4279f6bab91330d08a924f964d7e77f61a69c1a8a863"), looks := true }, kinds := [], alts := [], laidByText := true, laidKinds := [.handle], laidTests := true, laidLooks := .later }
def EngineWholeCardSaid : Prop := Claim7.holds Tryz.pinned (.plain (OpenSpec.ofChange engineWholeSpec)) engineWholeCard

/-- THE TIED CARD OF 'hawalalaw17.EngineRight'. -/
def engineRightCard : Claim7 := { stood := { row := engineRightRow, standIns := [], harness := (true, "ef3daf79b38d8ccf3b1c4279f6bab91330d08a924f964d7e77f61a69c1a8a863"), looks := true }, kinds := [], alts := [], laidByText := true, laidKinds := [.handle], laidTests := true, laidLooks := .later }
def EngineRightCardSaid : Prop := Claim7.holds Tryz.pinned (.plain (OpenSpec.ofChange engineRightSpec)) engineRightCard

/-- THE TIED CARD OF 'hawalalaw17.EngineAgain'. -/
def engineAgainCard : Claim7 := { stood := { row := engineAgainRow, standIns := [], harness := (true, "ef3daf79b38d8ccf3b1c4279f6bab91330d08a924f964d7e77f61a69c1a8a863"), looks := true }, kinds := [], alts := [], laidByText := true, laidKinds := [.handle], laidTests := true, laidLooks := .later }
def EngineAgainCardSaid : Prop := Claim7.holds Tryz.pinned (.plain (OpenSpec.ofChange engineAgainSpec)) engineAgainCard

/-- THE TIED CARD OF 'hawalalaw17.EngineRun'. -/
def engineRunCard : Claim7 := { stood := { row := engineRunRow, standIns := [], harness := (true, "ef3daf79b38d8ccf3b1c4279f6bab91330d08a924f964d7e77f61a69c1a8a863"), looks := true }, kinds := [], alts := [], laidByText := true, laidKinds := [.handle], laidTests := true, laidLooks := .later }
def EngineRunCardSaid : Prop := Claim7.holds Tryz.pinned (.plain (OpenSpec.ofChange engineRunSpec)) engineRunCard

/-- THE TIED CARD OF 'hawalalaw18.CodecTurned'. -/
def codecTurnedCard : Claim7 := { stood := { row := codecTurnedRow, standIns := [], harness := (true, "ef3daf79b38d8ccf3b1c4279f6bab91330d08a924f964d7e77f61a69c1a8a863"), looks := true }, kinds := [], alts := [], laidByText := true, laidKinds := [.handle], laidTests := true, laidLooks := .later }
def CodecTurnedCardSaid : Prop := Claim7.holds Tryz.pinned (.plain (OpenSpec.ofChange codecTurnedSpec)) codecTurnedCard

/-- THE TIED CARD OF 'hawalalaw18.CodecTwo'. -/
def codecTwoCard : Claim7 := { stood := { row := codecTwoRow, standIns := [], harness := (true, "ef3daf79b38d8ccf3b1c4279f6bab91330d08a924f964d7e77f61a69c1a8a863"), looks := true }, kinds := [], alts := [], laidByText := true, laidKinds := [.handle], laidTests := true, laidLooks := .later }
def CodecTwoCardSaid : Prop := Claim7.holds Tryz.pinned (.plain (OpenSpec.ofChange codecTwoSpec)) codecTwoCard

/-- THE SECOND FORM's CARD OF 'hawalalaw17.EngineWhole'. -/
def engineWholeUptoCard : Claim7 := { stood := { row := engineWholeUptoRow, standIns := [], harness := (true, "ef3daf79b38d8ccf3b1c4279f6bab91330d08a924f964d7e77f61a69c1a8a863"), looks := true }, kinds := [], alts := [], laidByText := true, laidKinds := [.handle], laidTests := true, laidLooks := .later }
def EngineWholeUptoCardSaid : Prop := Claim7.holds Tryz.pinned (.plain (OpenSpec.upto engineWholeSpec)) engineWholeUptoCard

/-- THE SECOND FORM's CARD OF 'hawalalaw17.EngineRight'. -/
def engineRightUptoCard : Claim7 := { stood := { row := engineRightUptoRow, standIns := [], harness := (true, "ef3daf79b38d8ccf3b1c4279f6bab91330d08a924f964d7e77f61a69c1a8a863"), looks := true }, kinds := [], alts := [], laidByText := true, laidKinds := [.handle], laidTests := true, laidLooks := .later }
def EngineRightUptoCardSaid : Prop := Claim7.holds Tryz.pinned (.plain (OpenSpec.upto engineRightSpec)) engineRightUptoCard

/-- THE SECOND FORM's CARD OF 'hawalalaw17.EngineAgain'. -/
def engineAgainUptoCard : Claim7 := { stood := { row := engineAgainUptoRow, standIns := [], harness := (true, "ef3daf79b38d8ccf3b1c4279f6bab91330d08a924f964d7e77f61a69c1a8a863"), looks := true }, kinds := [], alts := [], laidByText := true, laidKinds := [.handle], laidTests := true, laidLooks := .later }
def EngineAgainUptoCardSaid : Prop := Claim7.holds Tryz.pinned (.plain (OpenSpec.upto engineAgainSpec)) engineAgainUptoCard

/-- THE SECOND FORM's CARD OF 'hawalalaw17.EngineRun'. -/
def engineRunUptoCard : Claim7 := { stood := { row := engineRunUptoRow, standIns := [], harness := (true, "ef3daf79b38d8ccf3b1c4279f6bab91330d08a924f964d7e77f61a69c1a8a863"), looks := true }, kinds := [], alts := [], laidByText := true, laidKinds := [.handle], laidTests := true, laidLooks := .later }
def EngineRunUptoCardSaid : Prop := Claim7.holds Tryz.pinned (.plain (OpenSpec.upto engineRunSpec)) engineRunUptoCard

/-- THE SECOND FORM's CARD OF 'hawalalaw18.CodecTurned'. -/
def codecTurnedUptoCard : Claim7 := { stood := { row := codecTurnedUptoRow, standIns := [], harness := (true, "ef3daf79b38d8ccf3b1c4279f6bab91330d08a924f964d7e77f61a69c1a8a863"), looks := true }, kinds := [], alts := [], laidByText := true, laidKinds := [.handle], laidTests := true, laidLooks := .later }
def CodecTurnedUptoCardSaid : Prop := Claim7.holds Tryz.pinned (.plain (OpenSpec.upto codecTurnedSpec)) codecTurnedUptoCard

/-- THE SECOND FORM's CARD OF 'hawalalaw18.CodecTwo'. -/
def codecTwoUptoCard : Claim7 := { stood := { row := codecTwoUptoRow, standIns := [], harness := (true, "ef3daf79b38d8ccf3b1c4279f6bab91330d08a924f964d7e77f61a69c1a8a863"), looks := true }, kinds := [], alts := [], laidByText := true, laidKinds := [.handle], laidTests := true, laidLooks := .later }
def CodecTwoUptoCardSaid : Prop := Claim7.holds Tryz.pinned (.plain (OpenSpec.upto codecTwoSpec)) codecTwoUptoCard
end Rows
end Go.Proofs.YteifgmdaggiaaaaGreatDoor
