/-
  DERIVED. GIVEN WITH THE SEED: THE CARDS: each row of YtjphkpohcgkcmaaGreatDoorRows.lean that lists a variable, with what it lists TIED to the program's text (the seventh form; the later family's looks); each row that meets fmt, with fmt's text TOLD by the authors' own Lean function (tested against real Go, not proved from fmt's source: count such statements apart). THE CARD IS WHAT COUNTS. Prove the row's statement (the work); the ties are given (YtjphkpohcgkcmaaGreatDoorTie.lean); close each card by the builder's one call (the guide's Derived/Test/ToyasCard.lean, 'card_holds'). Laid BY PROGRAM, IN A SANDBOX (cutbox-door.mjs). By AI agents, Wed Nov 11 2026. No macro, syntax, notation, axiom, sorry.
-/
import Derived.Test.YtjphkpohcgkcmaaGreatDoorRows
import GoSem.ClaimSeven
namespace Go.Proofs.YtjphkpohcgkcmaaGreatDoor
namespace Rows

/-- THE TIED CARD OF 'hawalalaw16.BankRun'. -/
def bankRunCard : Claim7 := { stood := { row := bankRunRow, standIns := [], harness := (true, "d8cb51aaa3afe7ea194a7d71f1ed6c7e10ec18f556be9f80057133bd5a086322"), looks := true }, kinds := [], alts := [], laidByText := true, laidKinds := [.handle], laidTests := true, laidLooks := .later }
def BankRunCardSaid : Prop := Claim7.holds Tryz.pinned (.plain (OpenSpec.ofChange bankRunSpec)) bankRunCard

/-- THE TIED CARD OF 'hawalalaw17.EngineWhole'. -/
def engineWholeCard : Claim7 := { stood := { row := engineWholeRow, standIns := [], harness := (true, "d8cb51aaa3afe7ea194a7d71f1ed6c7e10ec18f556be9f80057133bd5a086322"), looks := true }, kinds := [], alts := [], laidByText := true, laidKinds := [.handle], laidTests := true, laidLooks := .later }
def EngineWholeCardSaid : Prop := Claim7.holds Tryz.pinned (.plain (OpenSpec.ofChange engineWholeSpec)) engineWholeCard

/-- THE TIED CARD OF 'hawalalaw17.EngineRight'. -/
def engineRightCard : Claim7 := { stood := { row := engineRightRow, standIns := [], harness := (true, "d8cb51aaa3afe7ea194a7d71f1ed6c7e10ec18f556be9f80057133bd5a086322"), looks := true }, kinds := [], alts := [], laidByText := true, laidKinds := [.handle], laidTests := true, laidLooks := .later }
def EngineRightCardSaid : Prop := Claim7.holds Tryz.pinned (.plain (OpenSpec.ofChange engineRightSpec)) engineRightCard

/-- THE TIED CARD OF 'hawalalaw17.EngineAgain'. -/
def engineAgainCard : Claim7 := { stood := { row := engineAgainRow, standIns := [], harness := (true, "d8cb51aaa3afe7ea194a7d71f1ed6c7e10ec18f556be9f80057133bd5a086322"), looks := true }, kinds := [], alts := [], laidByText := true, laidKinds := [.handle], laidTests := true, laidLooks := .later }
def EngineAgainCardSaid : Prop := Claim7.holds Tryz.pinned (.plain (OpenSpec.ofChange engineAgainSpec)) engineAgainCard

/-- THE TIED CARD OF 'hawalalaw17.EngineRun'. -/
def engineRunCard : Claim7 := { stood := { row := engineRunRow, standIns := [], harness := (true, "d8cb51aaa3afe7ea194a7d71f1ed6c7e10ec18f556be9f80057133bd5a086322"), looks := true }, kinds := [], alts := [], laidByText := true, laidKinds := [.handle], laidTests := true, laidLooks := .later }
def EngineRunCardSaid : Prop := Claim7.holds Tryz.pinned (.plain (OpenSpec.ofChange engineRunSpec)) engineRunCard

/-- THE TIED CARD OF 'hawalalaw17.EngineLimit'. -/
def engineLimitCard : Claim7 := { stood := { row := engineLimitRow, standIns := [], harness := (true, "d8cb51aaa3afe7ea194a7d71f1ed6c7e10ec18f556be9f80057133bd5a086322"), looks := true }, kinds := [], alts := [], laidByText := true, laidKinds := [.handle], laidTests := true, laidLooks := .later }
def EngineLimitCardSaid : Prop := Claim7.holds Tryz.pinned (.plain (OpenSpec.ofChange engineLimitSpec)) engineLimitCard

/-- THE SECOND FORM's CARD OF 'hawalalaw16.BankRun'. -/
def bankRunUptoCard : Claim7 := { stood := { row := bankRunUptoRow, standIns := [], harness := (true, "d8cb51aaa3afe7ea194a7d71f1ed6c7e10ec18f556be9f80057133bd5a086322"), looks := true }, kinds := [], alts := [], laidByText := true, laidKinds := [.handle], laidTests := true, laidLooks := .later }
def BankRunUptoCardSaid : Prop := Claim7.holds Tryz.pinned (.plain (OpenSpec.upto bankRunSpec)) bankRunUptoCard

/-- THE SECOND FORM's CARD OF 'hawalalaw17.EngineWhole'. -/
def engineWholeUptoCard : Claim7 := { stood := { row := engineWholeUptoRow, standIns := [], harness := (true, "d8cb51aaa3afe7ea194a7d71f1ed6c7e10ec18f556be9f80057133bd5a086322"), looks := true }, kinds := [], alts := [], laidByText := true, laidKinds := [.handle], laidTests := true, laidLooks := .later }
def EngineWholeUptoCardSaid : Prop := Claim7.holds Tryz.pinned (.plain (OpenSpec.upto engineWholeSpec)) engineWholeUptoCard

/-- THE SECOND FORM's CARD OF 'hawalalaw17.EngineRight'. -/
def engineRightUptoCard : Claim7 := { stood := { row := engineRightUptoRow, standIns := [], harness := (true, "d8cb51aaa3afe7ea194a7d71f1ed6c7e10ec18f556be9f80057133bd5a086322"), looks := true }, kinds := [], alts := [], laidByText := true, laidKinds := [.handle], laidTests := true, laidLooks := .later }
def EngineRightUptoCardSaid : Prop := Claim7.holds Tryz.pinned (.plain (OpenSpec.upto engineRightSpec)) engineRightUptoCard

/-- THE SECOND FORM's CARD OF 'hawalalaw17.EngineAgain'. -/
def engineAgainUptoCard : Claim7 := { stood := { row := engineAgainUptoRow, standIns := [], harness := (true, "d8cb51aaa3afe7ea194a7d71f1ed6c7e10ec18f556be9f80057133bd5a086322"), looks := true }, kinds := [], alts := [], laidByText := true, laidKinds := [.handle], laidTests := true, laidLooks := .later }
def EngineAgainUptoCardSaid : Prop := Claim7.holds Tryz.pinned (.plain (OpenSpec.upto engineAgainSpec)) engineAgainUptoCard

/-- THE SECOND FORM's CARD OF 'hawalalaw17.EngineRun'. -/
def engineRunUptoCard : Claim7 := { stood := { row := engineRunUptoRow, standIns := [], harness := (true, "d8cb51aaa3afe7ea194a7d71f1ed6c7e10ec18f556be9f80057133bd5a086322"), looks := true }, kinds := [], alts := [], laidByText := true, laidKinds := [.handle], laidTests := true, laidLooks := .later }
def EngineRunUptoCardSaid : Prop := Claim7.holds Tryz.pinned (.plain (OpenSpec.upto engineRunSpec)) engineRunUptoCard

/-- THE SECOND FORM's CARD OF 'hawalalaw17.EngineLimit'. -/
def engineLimitUptoCard : Claim7 := { stood := { row := engineLimitUptoRow, standIns := [], harness := (true, "d8cb51aaa3afe7ea194a7d71f1ed6c7e10ec18f556be9f80057133bd5a086322"), looks := true }, kinds := [], alts := [], laidByText := true, laidKinds := [.handle], laidTests := true, laidLooks := .later }
def EngineLimitUptoCardSaid : Prop := Claim7.holds Tryz.pinned (.plain (OpenSpec.upto engineLimitSpec)) engineLimitUptoCard
end Rows
end Go.Proofs.YtjphkpohcgkcmaaGreatDoor
