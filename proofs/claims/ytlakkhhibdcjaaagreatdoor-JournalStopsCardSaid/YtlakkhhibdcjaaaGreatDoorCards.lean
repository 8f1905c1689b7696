/-
  DERIVED. GIVEN WITH THE SEED: THE CARDS: each row of YtlakkhhibdcjaaaGreatDoorRows.lean that lists a variable, with what it lists TIED to the program's text (the seventh form; the later family's looks); each row that meets fmt, with fmt's text TOLD by the authors' own Lean function (tested against real Go, not proved from fmt's source: count such statements apart). THE CARD IS WHAT COUNTS. Prove the row's statement (the work); the ties are given (YtlakkhhibdcjaaaGreatDoorTie.lean); close each card by the builder's one call (the guide's Derived/Test/ToyasCard.lean, 'card_holds'). Laid BY PROGRAM, IN A SANDBOX (cutbox-door.mjs). By AI agents, Wed Nov 11 2026. No macro, syntax, notation, axiom, sorry.
-/
import Derived.Test.YtlakkhhibdcjaaaGreatDoorRows
import GoSem.ClaimSeven
namespace Go.Proofs.YtlakkhhibdcjaaaGreatDoor
namespace Rows

/-- THE TIED CARD OF 'hawalalaw06.JournalStops'. -/
def journalStopsCard : Claim7 := { stood := { row := journalStopsRow, standIns := [], harness := (true, "326926b16e0e09318e6bbca68908ed586a3f9968b7aa1724e160e9564ab5b091"), looks := true }, kinds := [], alts := [], laidByText := true, laidKinds := [.handle], laidTests := true, laidLooks := .later }
def JournalStopsCardSaid : Prop := Claim7.holds Tryz.pinned (.plain (OpenSpec.ofChange journalStopsSpec)) journalStopsCard

/-- THE TIED CARD OF 'hawalalaw06.JournalFull'. -/
def journalFullCard : Claim7 := { stood := { row := journalFullRow, standIns := [], harness := (true, "326926b16e0e09318e6bbca68908ed586a3f9968b7aa1724e160e9564ab5b091"), looks := true }, kinds := [], alts := [], laidByText := true, laidKinds := [.handle], laidTests := true, laidLooks := .later }
def JournalFullCardSaid : Prop := Claim7.holds Tryz.pinned (.plain (OpenSpec.ofChange journalFullSpec)) journalFullCard

/-- THE TIED CARD OF 'hawalalaw06.JournalForm'. -/
def journalFormCard : Claim7 := { stood := { row := journalFormRow, standIns := [], harness := (true, "326926b16e0e09318e6bbca68908ed586a3f9968b7aa1724e160e9564ab5b091"), looks := true }, kinds := [], alts := [], laidByText := true, laidKinds := [.handle], laidTests := true, laidLooks := .later }
def JournalFormCardSaid : Prop := Claim7.holds Tryz.pinned (.plain (OpenSpec.ofChange journalFormSpec)) journalFormCard

/-- THE TIED CARD OF 'hawalalaw06.JournalLong'. -/
def journalLongCard : Claim7 := { stood := { row := journalLongRow, standIns := [], harness := (true, "326926b16e0e09318e6bbca68908ed586a3f9968b7aa1724e160e9564ab5b091"), looks := true }, kinds := [], alts := [], laidByText := true, laidKinds := [.handle], laidTests := true, laidLooks := .later }
def JournalLongCardSaid : Prop := Claim7.holds Tryz.pinned (.plain (OpenSpec.ofChange journalLongSpec)) journalLongCard

/-- THE SECOND FORM's CARD OF 'hawalalaw06.JournalStops'. -/
def journalStopsUptoCard : Claim7 := { stood := { row := journalStopsUptoRow, standIns := [], harness := (true, "326926b16e0e09318e6bbca68908ed586a3f9968b7aa1724e160e9564ab5b091"), looks := true }, kinds := [], alts := [], laidByText := true, laidKinds := [.handle], laidTests := true, laidLooks := .later }
def JournalStopsUptoCardSaid : Prop := Claim7.holds Tryz.pinned (.plain (OpenSpec.upto journalStopsSpec)) journalStopsUptoCard

/-- THE SECOND FORM's CARD OF 'hawalalaw06.JournalFull'. -/
def journalFullUptoCard : Claim7 := { stood := { row := journalFullUptoRow, standIns := [], harness := (true, "326926b16e0e09318e6bbca68908ed586a3f9968b7aa1724e160e9564ab5b091"), looks := true }, kinds := [], alts := [], laidByText := true, laidKinds := [.handle], laidTests := true, laidLooks := .later }
def JournalFullUptoCardSaid : Prop := Claim7.holds Tryz.pinned (.plain (OpenSpec.upto journalFullSpec)) journalFullUptoCard

/-- THE SECOND FORM's CARD OF 'hawalalaw06.JournalForm'. -/
def journalFormUptoCard : Claim7 := { stood := { row := journalFormUptoRow, standIns := [], harness := (true, "326926b16e0e09318e6bbca68908ed586a3f9968b7aa1724e160e9564ab5b091"), looks := true }, kinds := [], alts := [], laidByText := true, laidKinds := [.handle], laidTests := true, laidLooks := .later }
def JournalFormUptoCardSaid : Prop := Claim7.holds Tryz.pinned (.plain (OpenSpec.upto journalFormSpec)) journalFormUptoCard

/-- THE SECOND FORM's CARD OF 'hawalalaw06.JournalLong'. -/
def journalLongUptoCard : Claim7 := { stood := { row := journalLongUptoRow, standIns := [], harness := (true, "326926b16e0e09318e6bbca68908ed586a3f9968b7aa1724e160e9564ab5b091"), looks := true }, kinds := [], alts := [], laidByText := true, laidKinds := [.handle], laidTests := true, laidLooks := .later }
def JournalLongUptoCardSaid : Prop := Claim7.holds Tryz.pinned (.plain (OpenSpec.upto journalLongSpec)) journalLongUptoCard
end Rows
end Go.Proofs.YtlakkhhibdcjaaaGreatDoor
