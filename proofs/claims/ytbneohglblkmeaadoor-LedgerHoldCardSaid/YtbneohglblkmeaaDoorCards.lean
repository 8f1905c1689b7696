/-
  DERIVED. GIVEN WITH THE SEED: THE CARDS: each row of YtbneohglblkmeaaDoorRows.lean that lists a variable, with what it lists TIED to the program's text (the seventh form; the later family's looks); each row that meets fmt, with fmt's text TOLD by the authors' own Lean function (tested against real Go, not proved from fmt's source: count such statements apart). THE CARD IS WHAT COUNTS. Prove the row's statement (the work); the ties are given (YtbneohglblkmeaaDoorTie.lean); close each card by the builder's one call (the guide's Derived/Test/ToyasCard.lean, 'card_holds'). Laid BY PROGRAM, IN A SANDBOX (cutbox-door.mjs). By AI agents, Wed Nov 11 2026. No macro, syntax, notation, axiom, sorry.
-/
import Derived.Test.YtbneohglblkmeaaDoorRows
import GoSem.ClaimSeven
namespace Go.Proofs.YtbneohglblkmeaaDoor
namespace Rows

/-- THE TIED CARD OF 'hawalalaw09.LedgerPost'. -/
def ledgerPostCard : Claim7 := { stood := { row := ledgerPostRow, standIns := [], harness := (true, "760f6b0fbba3f6cc92a934f1a891d3c828c3c1fc8480682ea0ecdfd5a4ef36c1"), looks := true }, kinds := [], alts := [], laidByText := true, laidKinds := [.handle], laidTests := true, laidLooks := .later }
def LedgerPostCardSaid : Prop := Claim7.holds Tryd.pinned (.plain (OpenSpec.ofChange ledgerPostSpec)) ledgerPostCard

/-- THE TIED CARD OF 'hawalalaw09.LedgerHold'. -/
def ledgerHoldCard : Claim7 := { stood := { row := ledgerHoldRow, standIns := [], harness := (true, "760f6b0fbba3f6cc92a934f1a891d3c828c3c1fc8480682ea0ecdfd5a4ef36c1"), looks := true }, kinds := [], alts := [], laidByText := true, laidKinds := [.handle], laidTests := true, laidLooks := .later }
def LedgerHoldCardSaid : Prop := Claim7.holds Tryd.pinned (.plain (OpenSpec.ofChange ledgerHoldSpec)) ledgerHoldCard

/-- THE TIED CARD OF 'hawalalaw09.LedgerSpend'. -/
def ledgerSpendCard : Claim7 := { stood := { row := ledgerSpendRow, standIns := [], harness := (true, "760f6b0fbba3f6cc92a934f1a891d3c828c3c1fc8480682ea0ecdfd5a4ef36c1"), looks := true }, kinds := [], alts := [], laidByText := true, laidKinds := [.handle], laidTests := true, laidLooks := .later }
def LedgerSpendCardSaid : Prop := Claim7.holds Tryd.pinned (.plain (OpenSpec.ofChange ledgerSpendSpec)) ledgerSpendCard

/-- THE TIED CARD OF 'hawalalaw09.LedgerRight'. -/
def ledgerRightCard : Claim7 := { stood := { row := ledgerRightRow, standIns := [], harness := (true, "760f6b0fbba3f6cc92a934f1a891d3c828c3c1fc8480682ea0ecdfd5a4ef36c1"), looks := true }, kinds := [], alts := [], laidByText := true, laidKinds := [.handle], laidTests := true, laidLooks := .later }
def LedgerRightCardSaid : Prop := Claim7.holds Tryd.pinned (.plain (OpenSpec.ofChange ledgerRightSpec)) ledgerRightCard

/-- THE TIED CARD OF 'hawalalaw09.LedgerBack'. -/
def ledgerBackCard : Claim7 := { stood := { row := ledgerBackRow, standIns := [], harness := (true, "760f6b0fbba3f6cc92a934f1a891d3c828c3c1fc8480682ea0ecdfd5a4ef36c1"), looks := true }, kinds := [], alts := [], laidByText := true, laidKinds := [.handle], laidTests := true, laidLooks := .later }
def LedgerBackCardSaid : Prop := Claim7.holds Tryd.pinned (.plain (OpenSpec.ofChange ledgerBackSpec)) ledgerBackCard

/-- THE SECOND FORM's CARD OF 'hawalalaw09.LedgerPost'. -/
def ledgerPostUptoCard : Claim7 := { stood := { row := ledgerPostUptoRow, standIns := [], harness := (true, "760f6b0fbba3f6cc92a934f1a891d3c828c3c1fc8480682ea0ecdfd5a4ef36c1"), looks := true }, kinds := [], alts := [], laidByText := true, laidKinds := [.handle], laidTests := true, laidLooks := .later }
def LedgerPostUptoCardSaid : Prop := Claim7.holds Tryd.pinned (.plain (OpenSpec.upto ledgerPostSpec)) ledgerPostUptoCard

/-- THE SECOND FORM's CARD OF 'hawalalaw09.LedgerHold'. -/
def ledgerHoldUptoCard : Claim7 := { stood := { row := ledgerHoldUptoRow, standIns := [], harness := (true, "760f6b0fbba3f6cc92a934f1a891d3c828c3c1fc8480682ea0ecdfd5a4ef36c1"), looks := true }, kinds := [], alts := [], laidByText := true, laidKinds := [.handle], laidTests := true, laidLooks := .later }
def LedgerHoldUptoCardSaid : Prop := Claim7.holds Tryd.pinned (.plain (OpenSpec.upto ledgerHoldSpec)) ledgerHoldUptoCard

/-- THE SECOND FORM's CARD OF 'hawalalaw09.LedgerSpend'. -/
def ledgerSpendUptoCard : Claim7 := { stood := { row := ledgerSpendUptoRow, standIns := [], harness := (true, "760f6b0fbba3f6cc92a934f1a891d3c828c3c1fc8480682ea0ecdfd5a4ef36c1"), looks := true }, kinds := [], alts := [], laidByText := true, laidKinds := [.handle], laidTests := true, laidLooks := .later }
def LedgerSpendUptoCardSaid : Prop := Claim7.holds Tryd.pinned (.plain (OpenSpec.upto ledgerSpendSpec)) ledgerSpendUptoCard

/-- THE SECOND FORM's CARD OF 'hawalalaw09.LedgerRight'. -/
def ledgerRightUptoCard : Claim7 := { stood := { row := ledgerRightUptoRow, standIns := [], harness := (true, "760f6b0fbba3f6cc92a934f1a891d3c828c3c1fc8480682ea0ecdfd5a4ef36c1"), looks := true }, kinds := [], alts := [], laidByText := true, laidKinds := [.handle], laidTests := true, laidLooks := .later }
def LedgerRightUptoCardSaid : Prop := Claim7.holds Tryd.pinned (.plain (OpenSpec.upto ledgerRightSpec)) ledgerRightUptoCard

/-- THE SECOND FORM's CARD OF 'hawalalaw09.LedgerBack'. -/
def ledgerBackUptoCard : Claim7 := { stood := { row := ledgerBackUptoRow, standIns := [], harness := (true, "760f6b0fbba3f6cc92a934f1a891d3c828c3c1fc8480682ea0ecdfd5a4ef36c1"), looks := true }, kinds := [], alts := [], laidByText := true, laidKinds := [.handle], laidTests := true, laidLooks := .later }
def LedgerBackUptoCardSaid : Prop := Claim7.holds Tryd.pinned (.plain (OpenSpec.upto ledgerBackSpec)) ledgerBackUptoCard
end Rows
end Go.Proofs.YtbneohglblkmeaaDoor
