/-
  DERIVED. GIVEN WITH THE SEED: THE CARDS: each row of YtopogffoiofgbaaDoorRows.lean that lists a variable, with what it lists TIED to the program's text (the seventh form; the later family's looks); each row that meets fmt, with fmt's text TOLD by the authors' own Lean function (tested against real Go, not proved from fmt's source: count such statements apart). THE CARD IS WHAT COUNTS. Prove the row's statement (the work); the ties are given (YtopogffoiofgbaaDoorTie.lean); close each card by the builder's one call (the guide's Derived/Test/ToyasCard.lean, 'card_holds'). Laid BY PROGRAM, IN A SANDBOX (cutbox-door.mjs). By AI agents, Wed Nov 11 2026. No macro, syntax, notation, axiom, sorry.
-/
import Derived.Test.YtopogffoiofgbaaDoorRows
import GoSem.ClaimSeven
namespace Go.Proofs.YtopogffoiofgbaaDoor
namespace Rows

/-- THE TIED CARD OF 'hawalalaw05.DiskRoom'. -/
def diskRoomCard : Claim7 := { stood := { row := diskRoomRow, standIns := [], harness := (true, "4ef7b70f446cc76fd95e963b09fa9c3cd87c90b4803b8dea251fbf478c78bde0"), looks := true }, kinds := [], alts := [], laidByText := true, laidKinds := [.handle], laidTests := true, laidLooks := .later }
def DiskRoomCardSaid : Prop := Claim7.holds Tryd.pinned (.plain (OpenSpec.ofChange diskRoomSpec)) diskRoomCard

/-- THE TIED CARD OF 'hawalalaw05.DiskRename'. -/
def diskRenameCard : Claim7 := { stood := { row := diskRenameRow, standIns := [], harness := (true, "4ef7b70f446cc76fd95e963b09fa9c3cd87c90b4803b8dea251fbf478c78bde0"), looks := true }, kinds := [], alts := [], laidByText := true, laidKinds := [.handle], laidTests := true, laidLooks := .later }
def DiskRenameCardSaid : Prop := Claim7.holds Tryd.pinned (.plain (OpenSpec.ofChange diskRenameSpec)) diskRenameCard

/-- THE TIED CARD OF 'hawalalaw05.DiskCut'. -/
def diskCutCard : Claim7 := { stood := { row := diskCutRow, standIns := [], harness := (true, "4ef7b70f446cc76fd95e963b09fa9c3cd87c90b4803b8dea251fbf478c78bde0"), looks := true }, kinds := [], alts := [], laidByText := true, laidKinds := [.handle], laidTests := true, laidLooks := .later }
def DiskCutCardSaid : Prop := Claim7.holds Tryd.pinned (.plain (OpenSpec.ofChange diskCutSpec)) diskCutCard

/-- THE SECOND FORM's CARD OF 'hawalalaw05.DiskRoom'. -/
def diskRoomUptoCard : Claim7 := { stood := { row := diskRoomUptoRow, standIns := [], harness := (true, "4ef7b70f446cc76fd95e963b09fa9c3cd87c90b4803b8dea251fbf478c78bde0"), looks := true }, kinds := [], alts := [], laidByText := true, laidKinds := [.handle], laidTests := true, laidLooks := .later }
def DiskRoomUptoCardSaid : Prop := Claim7.holds Tryd.pinned (.plain (OpenSpec.upto diskRoomSpec)) diskRoomUptoCard

/-- THE SECOND FORM's CARD OF 'hawalalaw05.DiskRename'. -/
def diskRenameUptoCard : Claim7 := { stood := { row := diskRenameUptoRow, standIns := [], harness := (true, "4ef7b70f446cc76fd95e963b09fa9c3cd87c90b4803b8dea251fbf478c78bde0"), looks := true }, kinds := [], alts := [], laidByText := true, laidKinds := [.handle], laidTests := true, laidLooks := .later }
def DiskRenameUptoCardSaid : Prop := Claim7.holds Tryd.pinned (.plain (OpenSpec.upto diskRenameSpec)) diskRenameUptoCard

/-- THE SECOND FORM's CARD OF 'hawalalaw05.DiskCut'. -/
def diskCutUptoCard : Claim7 := { stood := { row := diskCutUptoRow, standIns := [], harness := (true, "4ef7b70f446cc76fd95e963b09fa9c3cd87c90b4803b8dea251fbf478c78bde0"), looks := true }, kinds := [], alts := [], laidByText := true, laidKinds := [.handle], laidTests := true, laidLooks := .later }
def DiskCutUptoCardSaid : Prop := Claim7.holds Tryd.pinned (.plain (OpenSpec.upto diskCutSpec)) diskCutUptoCard
end Rows
end Go.Proofs.YtopogffoiofgbaaDoor
