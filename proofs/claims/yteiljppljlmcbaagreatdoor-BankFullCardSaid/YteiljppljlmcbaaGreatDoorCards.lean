/-
  DERIVED. GIVEN WITH THE SEED: THE CARDS: each row of YteiljppljlmcbaaGreatDoorRows.lean that lists a variable, with what it lists TIED to the program's text (the seventh form; the later family's looks); each row that meets fmt, with fmt's text TOLD by the authors' own Lean function (tested against real Go, not proved from fmt's source: count such statements apart). THE CARD IS WHAT COUNTS. Prove the row's statement (the work); the ties are given (YteiljppljlmcbaaGreatDoorTie.lean); close each card by the builder's one call (the guide's Derived/Test/ToyasCard.lean, 'card_holds'). Laid BY PROGRAM, IN A SANDBOX (cutbox-door.mjs). By AI agents, Wed Nov 11 2026. No macro, syntax, notation, axiom, sorry.
-/
import Derived.Test.YteiljppljlmcbaaGreatDoorRows
import GoSem.ClaimSeven
namespace Go.Proofs.YteiljppljlmcbaaGreatDoor
namespace Rows

/-- THE TIED CARD OF 'hawalalaw16.BankRun'. -/
def bankRunCard : Claim7 := { stood := { row := bankRunRow, standIns := [], harness := (true, "b95a8bf32e1a2965771958cc17248212a5aa4246a5d63c2331e2f633f55edf62"), looks := true }, kinds := [], alts := [], laidByText := true, laidKinds := [.handle], laidTests := true, laidLooks := .later }
def BankRunCardSaid : Prop := Claim7.holds Tryz.pinned (.plain (OpenSpec.ofChange bankRunSpec)) bankRunCard

/-- THE TIED CARD OF 'hawalalaw16.BankAgain'. -/
def bankAgainCard : Claim7 := { stood := { row := bankAgainRow, standIns := [], harness := (true, "b95a8bf32e1a2965771958cc17248212a5aa4246a5d63c2331e2f633f55edf62"), looks := true }, kinds := [], alts := [], laidByText := true, laidKinds := [.handle], laidTests := true, laidLooks := .later }
def BankAgainCardSaid : Prop := Claim7.holds Tryz.pinned (.plain (OpenSpec.ofChange bankAgainSpec)) bankAgainCard

/-- THE TIED CARD OF 'hawalalaw16.BankBad'. -/
def bankBadCard : Claim7 := { stood := { row := bankBadRow, standIns := [], harness := (true, "b95a8bf32e1a2965771958cc17248212a5aa4246a5d63c2331e2f633f55edf62"), looks := true }, kinds := [], alts := [], laidByText := true, laidKinds := [.handle], laidTests := true, laidLooks := .later }
def BankBadCardSaid : Prop := Claim7.holds Tryz.pinned (.plain (OpenSpec.ofChange bankBadSpec)) bankBadCard

/-- THE TIED CARD OF 'hawalalaw16.BankFull'. -/
def bankFullCard : Claim7 := { stood := { row := bankFullRow, standIns := [], harness := (true, "b95a8bf32e1a2965771958cc17248212a5aa4246a5d63c2331e2f633f55edf62"), looks := true }, kinds := [], alts := [], laidByText := true, laidKinds := [.handle], laidTests := true, laidLooks := .later }
def BankFullCardSaid : Prop := Claim7.holds Tryz.pinned (.plain (OpenSpec.ofChange bankFullSpec)) bankFullCard

/-- THE TIED CARD OF 'hawalalaw16.BankLegs'. -/
def bankLegsCard : Claim7 := { stood := { row := bankLegsRow, standIns := [], harness := (true, "b95a8bf32e1a2965771958cc17248212a5aa4246a5d63c2331e2f633f55edf62"), looks := true }, kinds := [], alts := [], laidByText := true, laidKinds := [.handle], laidTests := true, laidLooks := .later }
def BankLegsCardSaid : Prop := Claim7.holds Tryz.pinned (.plain (OpenSpec.ofChange bankLegsSpec)) bankLegsCard

/-- THE SECOND FORM's CARD OF 'hawalalaw16.BankRun'. -/
def bankRunUptoCard : Claim7 := { stood := { row := bankRunUptoRow, standIns := [], harness := (true, "b95a8bf32e1a2965771958cc17248212a5aa4246a5d63c2331e2f633f55edf62"), looks := true }, kinds := [], alts := [], laidByText := true, laidKinds := [.handle], laidTests := true, laidLooks := .later }
def BankRunUptoCardSaid : Prop := Claim7.holds Tryz.pinned (.plain (OpenSpec.upto bankRunSpec)) bankRunUptoCard

/-- THE SECOND FORM's CARD OF 'hawalalaw16.BankAgain'. -/
def bankAgainUptoCard : Claim7 := { stood := { row := bankAgainUptoRow, standIns := [], harness := (true, "b95a8bf32e1a2965771958cc17248212a5aa4246a5d63c2331e2f633f55edf62"), looks := true }, kinds := [], alts := [], laidByText := true, laidKinds := [.handle], laidTests := true, laidLooks := .later }
def BankAgainUptoCardSaid : Prop := Claim7.holds Tryz.pinned (.plain (OpenSpec.upto bankAgainSpec)) bankAgainUptoCard

/-- THE SECOND FORM's CARD OF 'hawalalaw16.BankBad'. -/
def bankBadUptoCard : Claim7 := { stood := { row := bankBadUptoRow, standIns := [], harness := (true, "b95a8bf32e1a2965771958cc17248212a5aa4246a5d63c2331e2f633f55edf62"), looks := true }, kinds := [], alts := [], laidByText := true, laidKinds := [.handle], laidTests := true, laidLooks := .later }
def BankBadUptoCardSaid : Prop := Claim7.holds Tryz.pinned (.plain (OpenSpec.upto bankBadSpec)) bankBadUptoCard

/-- THE SECOND FORM's CARD OF 'hawalalaw16.BankFull'. -/
def bankFullUptoCard : Claim7 := { stood := { row := bankFullUptoRow, standIns := [], harness := (true, "b95a8bf32e1a2965771958cc17248212a5aa4246a5d63c2331e2f633f55edf62"), looks := true }, kinds := [], alts := [], laidByText := true, laidKinds := [.handle], laidTests := true, laidLooks := .later }
def BankFullUptoCardSaid : Prop := Claim7.holds Tryz.pinned (.plain (OpenSpec.upto bankFullSpec)) bankFullUptoCard

/-- THE SECOND FORM's CARD OF 'hawalalaw16.BankLegs'. -/
def bankLegsUptoCard : Claim7 := { stood := { row := bankLegsUptoRow, standIns := [], harness := (true, "b95a8bf32e1a2965771958cc17248212a5aa4246a5d63c2331e2f633f55edf62"), looks := true }, kinds := [], alts := [], laidByText := true, laidKinds := [.handle], laidTests := true, laidLooks := .later }
def BankLegsUptoCardSaid : Prop := Claim7.holds Tryz.pinned (.plain (OpenSpec.upto bankLegsSpec)) bankLegsUptoCard
end Rows
end Go.Proofs.YteiljppljlmcbaaGreatDoor
