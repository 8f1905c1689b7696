/-
  DERIVED. GIVEN WITH THE SEED: THE CARDS: each row of YtjnmppdohglcaaaGreatDoorRows.lean that lists a variable, with what it lists TIED to the program's text (the seventh form; the later family's looks); each row that meets fmt, with fmt's text TOLD by the authors' own Lean function (tested against real Go, not proved from fmt's source: count such statements apart). THE CARD IS WHAT COUNTS. Prove the row's statement (the work); the ties are given (YtjnmppdohglcaaaGreatDoorTie.lean); close each card by the builder's one call (the guide's Derived/Test/ToyasCard.lean, 'card_holds'). Laid BY PROGRAM, IN A SANDBOX (cutbox-door.mjs). By AI agents, Wed Nov 11 2026. No macro, syntax, notation, axiom, sorry.
-/
import Derived.Test.YtjnmppdohglcaaaGreatDoorRows
import GoSem.ClaimSeven
namespace Go.Proofs.YtjnmppdohglcaaaGreatDoor
namespace Rows

/-- THE TIED CARD OF 'hawalalaw15.OpsRight'. -/
def opsRightCard : Claim7 := { stood := { row := opsRightRow, standIns := [], harness := (true, "c1ac7a687701e01bd2498ba42ee2c22bc72567985416c459c8966039028c720d"), looks := true }, kinds := [], alts := [], laidByText := true, laidKinds := [.handle], laidTests := true, laidLooks := .later }
def OpsRightCardSaid : Prop := Claim7.holds Tryz.pinned (.plain (OpenSpec.ofChange opsRightSpec)) opsRightCard

/-- THE TIED CARD OF 'hawalalaw15.OpsTick'. -/
def opsTickCard : Claim7 := { stood := { row := opsTickRow, standIns := [], harness := (true, "c1ac7a687701e01bd2498ba42ee2c22bc72567985416c459c8966039028c720d"), looks := true }, kinds := [], alts := [], laidByText := true, laidKinds := [.handle], laidTests := true, laidLooks := .later }
def OpsTickCardSaid : Prop := Claim7.holds Tryz.pinned (.plain (OpenSpec.ofChange opsTickSpec)) opsTickCard

/-- THE SECOND FORM's CARD OF 'hawalalaw15.OpsRight'. -/
def opsRightUptoCard : Claim7 := { stood := { row := opsRightUptoRow, standIns := [], harness := (true, "c1ac7a687701e01bd2498ba42ee2c22bc72567985416c459c8966039028c720d"), looks := true }, kinds := [], alts := [], laidByText := true, laidKinds := [.handle], laidTests := true, laidLooks := .later }
def OpsRightUptoCardSaid : Prop := Claim7.holds Tryz.pinned (.plain (OpenSpec.upto opsRightSpec)) opsRightUptoCard

/-- THE SECOND FORM's CARD OF 'hawalalaw15.OpsTick'. -/
def opsTickUptoCard : Claim7 := { stood := { row := opsTickUptoRow, standIns := [], harness := (true, "c1ac7a687701e01bd2498ba42ee2c22bc72567985416c459c8966039028c720d"), looks := true }, kinds := [], alts := [], laidByText := true, laidKinds := [.handle], laidTests := true, laidLooks := .later }
def OpsTickUptoCardSaid : Prop := Claim7.holds Tryz.pinned (.plain (OpenSpec.upto opsTickSpec)) opsTickUptoCard
end Rows
end Go.Proofs.YtjnmppdohglcaaaGreatDoor
