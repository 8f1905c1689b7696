/-
  DERIVED. GIVEN WITH THE SEED: THE CARDS: each row of YtmokdmojhfhopaaDoorRows.lean that lists a variable, with what it lists TIED to the program's text (the seventh form; the later family's looks); each row that meets fmt, with fmt's text TOLD by the authors' own Lean function (tested against real Go, not proved from fmt's source: count such statements apart). THE CARD IS WHAT COUNTS. Prove the row's statement (the work); the ties are given (YtmokdmojhfhopaaDoorTie.lean); close each card by the builder's one call (the guide's Derived/Test/ToyasCard.lean, 'card_holds'). Laid BY PROGRAM, IN A SANDBOX (cutbox-door.mjs). By AI agents, Wed Nov 11 2026. No macro, syntax, notation, axiom, sorry.
-/
import Derived.Test.YtmokdmojhfhopaaDoorRows
import GoSem.ClaimSeven
namespace Go.Proofs.YtmokdmojhfhopaaDoor
namespace Rows

/-- THE TIED CARD OF 'hawalalaw11.KeysScript'. -/
def keysScriptCard : Claim7 := { stood := { row := keysScriptRow, standIns := [], harness := (true, "a89916e86c61fc9635d005c92dedcf372189a85431082e4b988c8cddd2a47c11"), looks := true }, kinds := [], alts := [], laidByText := true, laidKinds := [.handle], laidTests := true, laidLooks := .later }
def KeysScriptCardSaid : Prop := Claim7.holds Tryd.pinned (.plain (OpenSpec.ofChange keysScriptSpec)) keysScriptCard

/-- THE TIED CARD OF 'hawalalaw11.KeysMany'. -/
def keysManyCard : Claim7 := { stood := { row := keysManyRow, standIns := [], harness := (true, "a89916e86c61fc9635d005c92dedcf372189a85431082e4b988c8cddd2a47c11"), looks := true }, kinds := [], alts := [], laidByText := true, laidKinds := [.handle], laidTests := true, laidLooks := .later }
def KeysManyCardSaid : Prop := Claim7.holds Tryd.pinned (.plain (OpenSpec.ofChange keysManySpec)) keysManyCard

/-- THE TIED CARD OF 'hawalalaw11.KeysFirst'. -/
def keysFirstCard : Claim7 := { stood := { row := keysFirstRow, standIns := [], harness := (true, "a89916e86c61fc9635d005c92dedcf372189a85431082e4b988c8cddd2a47c11"), looks := true }, kinds := [], alts := [], laidByText := true, laidKinds := [.handle], laidTests := true, laidLooks := .later }
def KeysFirstCardSaid : Prop := Claim7.holds Tryd.pinned (.plain (OpenSpec.ofChange keysFirstSpec)) keysFirstCard

/-- THE TIED CARD OF 'hawalalaw11.KeysPending'. -/
def keysPendingCard : Claim7 := { stood := { row := keysPendingRow, standIns := [], harness := (true, "a89916e86c61fc9635d005c92dedcf372189a85431082e4b988c8cddd2a47c11"), looks := true }, kinds := [], alts := [], laidByText := true, laidKinds := [.handle], laidTests := true, laidLooks := .later }
def KeysPendingCardSaid : Prop := Claim7.holds Tryd.pinned (.plain (OpenSpec.ofChange keysPendingSpec)) keysPendingCard

/-- THE SECOND FORM's CARD OF 'hawalalaw11.KeysScript'. -/
def keysScriptUptoCard : Claim7 := { stood := { row := keysScriptUptoRow, standIns := [], harness := (true, "a89916e86c61fc9635d005c92dedcf372189a85431082e4b988c8cddd2a47c11"), looks := true }, kinds := [], alts := [], laidByText := true, laidKinds := [.handle], laidTests := true, laidLooks := .later }
def KeysScriptUptoCardSaid : Prop := Claim7.holds Tryd.pinned (.plain (OpenSpec.upto keysScriptSpec)) keysScriptUptoCard

/-- THE SECOND FORM's CARD OF 'hawalalaw11.KeysMany'. -/
def keysManyUptoCard : Claim7 := { stood := { row := keysManyUptoRow, standIns := [], harness := (true, "a89916e86c61fc9635d005c92dedcf372189a85431082e4b988c8cddd2a47c11"), looks := true }, kinds := [], alts := [], laidByText := true, laidKinds := [.handle], laidTests := true, laidLooks := .later }
def KeysManyUptoCardSaid : Prop := Claim7.holds Tryd.pinned (.plain (OpenSpec.upto keysManySpec)) keysManyUptoCard

/-- THE SECOND FORM's CARD OF 'hawalalaw11.KeysFirst'. -/
def keysFirstUptoCard : Claim7 := { stood := { row := keysFirstUptoRow, standIns := [], harness := (true, "a89916e86c61fc9635d005c92dedcf372189a85431082e4b988c8cddd2a47c11"), looks := true }, kinds := [], alts := [], laidByText := true, laidKinds := [.handle], laidTests := true, laidLooks := .later }
def KeysFirstUptoCardSaid : Prop := Claim7.holds Tryd.pinned (.plain (OpenSpec.upto keysFirstSpec)) keysFirstUptoCard

/-- THE SECOND FORM's CARD OF 'hawalalaw11.KeysPending'. -/
def keysPendingUptoCard : Claim7 := { stood := { row := keysPendingUptoRow, standIns := [], harness := (true, "a89916e86c61fc9635d005c92dedcf372189a85431082e4b988c8cddd2a47c11"), looks := true }, kinds := [], alts := [], laidByText := true, laidKinds := [.handle], laidTests := true, laidLooks := .later }
def KeysPendingUptoCardSaid : Prop := Claim7.holds Tryd.pinned (.plain (OpenSpec.upto keysPendingSpec)) keysPendingUptoCard
end Rows
end Go.Proofs.YtmokdmojhfhopaaDoor
