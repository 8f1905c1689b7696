/-
  DERIVED. GIVEN WITH THE SEED: THE CARDS: each row of YtjnmppdohglcaaaDoorRows.lean that lists a variable, with what it lists TIED to the program's text (the seventh form; the later family's looks); each row that meets fmt, with fmt's text TOLD by the authors' own Lean function (tested against real Go, not proved from fmt's source: count such statements apart). THE CARD IS WHAT COUNTS. Prove the row's statement (the work); the ties are given (YtjnmppdohglcaaaDoorTie.lean); close each card by the builder's one call (the guide's Derived/Test/ToyasCard.lean, 'card_holds'). Laid BY PROGRAM, IN A SANDBOX (cutbox-door.mjs). By AI agents, Wed Nov 11 2026. No macro, syntax, notation, axiom, sorry.
-/
import Derived.Test.YtjnmppdohglcaaaDoorRows
import GoSem.ClaimSeven
namespace Go.Proofs.YtjnmppdohglcaaaDoor
namespace Rows

/-- THE TIED CARD OF 'hawalalaw15.OpsRaw'. -/
def opsRawCard : Claim7 := { stood := { row := opsRawRow, standIns := [], harness := (true, "5d323c6e36b425527c39af77051f131c2f068494ca53eb636ee22545f637a0d0"), looks := true }, kinds := [], alts := [], laidByText := true, laidKinds := [.handle], laidTests := true, laidLooks := .later }
def OpsRawCardSaid : Prop := Claim7.holds Tryd.pinned (.plain (OpenSpec.ofChange opsRawSpec)) opsRawCard

/-- THE TIED CARD OF 'hawalalaw15.OpsCharge'. -/
def opsChargeCard : Claim7 := { stood := { row := opsChargeRow, standIns := [], harness := (true, "5d323c6e36b425527c39af77051f131c2f068494ca53eb636ee22545f637a0d0"), looks := true }, kinds := [], alts := [], laidByText := true, laidKinds := [.handle], laidTests := true, laidLooks := .later }
def OpsChargeCardSaid : Prop := Claim7.holds Tryd.pinned (.plain (OpenSpec.ofChange opsChargeSpec)) opsChargeCard

/-- THE TIED CARD OF 'hawalalaw15.OpsMany'. -/
def opsManyCard : Claim7 := { stood := { row := opsManyRow, standIns := [], harness := (true, "5d323c6e36b425527c39af77051f131c2f068494ca53eb636ee22545f637a0d0"), looks := true }, kinds := [], alts := [], laidByText := true, laidKinds := [.handle], laidTests := true, laidLooks := .later }
def OpsManyCardSaid : Prop := Claim7.holds Tryd.pinned (.plain (OpenSpec.ofChange opsManySpec)) opsManyCard

/-- THE SECOND FORM's CARD OF 'hawalalaw15.OpsRaw'. -/
def opsRawUptoCard : Claim7 := { stood := { row := opsRawUptoRow, standIns := [], harness := (true, "5d323c6e36b425527c39af77051f131c2f068494ca53eb636ee22545f637a0d0"), looks := true }, kinds := [], alts := [], laidByText := true, laidKinds := [.handle], laidTests := true, laidLooks := .later }
def OpsRawUptoCardSaid : Prop := Claim7.holds Tryd.pinned (.plain (OpenSpec.upto opsRawSpec)) opsRawUptoCard

/-- THE SECOND FORM's CARD OF 'hawalalaw15.OpsCharge'. -/
def opsChargeUptoCard : Claim7 := { stood := { row := opsChargeUptoRow, standIns := [], harness := (true, "5d323c6e36b425527c39af77051f131c2f068494ca53eb636ee22545f637a0d0"), looks := true }, kinds := [], alts := [], laidByText := true, laidKinds := [.handle], laidTests := true, laidLooks := .later }
def OpsChargeUptoCardSaid : Prop := Claim7.holds Tryd.pinned (.plain (OpenSpec.upto opsChargeSpec)) opsChargeUptoCard

/-- THE SECOND FORM's CARD OF 'hawalalaw15.OpsMany'. -/
def opsManyUptoCard : Claim7 := { stood := { row := opsManyUptoRow, standIns := [], harness := (true, "5d323c6e36b425527c39af77051f131c2f068494ca53eb636ee22545f637a0d0"), looks := true }, kinds := [], alts := [], laidByText := true, laidKinds := [.handle], laidTests := true, laidLooks := .later }
def OpsManyUptoCardSaid : Prop := Claim7.holds Tryd.pinned (.plain (OpenSpec.upto opsManySpec)) opsManyUptoCard
end Rows
end Go.Proofs.YtjnmppdohglcaaaDoor
