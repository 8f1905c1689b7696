/-
  DERIVED. GIVEN WITH THE SEED: THE CARDS: each row of YtenghafnpmlbnaaDoorRows.lean that lists a variable, with what it lists TIED to the program's text (the seventh form; the later family's looks); each row that meets fmt, with fmt's text TOLD by the authors' own Lean function (tested against real Go, not proved from fmt's source: count such statements apart). THE CARD IS WHAT COUNTS. Prove the row's statement (the work); the ties are given (YtenghafnpmlbnaaDoorTie.lean); close each card by the builder's one call (the guide's Derived/Test/ToyasCard.lean, 'card_holds'). Laid BY PROGRAM, IN A SANDBOX (cutbox-door.mjs). By AI agents, Wed Nov 11 2026. No macro, syntax, notation, axiom, sorry.
-/
import Derived.Test.YtenghafnpmlbnaaDoorRows
import GoSem.ClaimSeven
namespace Go.Proofs.YtenghafnpmlbnaaDoor
namespace Rows

/-- THE TIED CARD OF 'hawalalaw12.PaymentDo'. -/
def paymentDoCard : Claim7 := { stood := { row := paymentDoRow, standIns := [], harness := (true, "8ec954cbe1783df7fa3853193cf22383be32bedf84f96ca197a7b91368eafade"), looks := true }, kinds := [], alts := [], laidByText := true, laidKinds := [.handle], laidTests := true, laidLooks := .later }
def PaymentDoCardSaid : Prop := Claim7.holds Tryd.pinned (.plain (OpenSpec.ofChange paymentDoSpec)) paymentDoCard

/-- THE TIED CARD OF 'hawalalaw12.PaymentRight'. -/
def paymentRightCard : Claim7 := { stood := { row := paymentRightRow, standIns := [], harness := (true, "8ec954cbe1783df7fa3853193cf22383be32bedf84f96ca197a7b91368eafade"), looks := true }, kinds := [], alts := [], laidByText := true, laidKinds := [.handle], laidTests := true, laidLooks := .later }
def PaymentRightCardSaid : Prop := Claim7.holds Tryd.pinned (.plain (OpenSpec.ofChange paymentRightSpec)) paymentRightCard

/-- THE TIED CARD OF 'hawalalaw12.PaymentStays'. -/
def paymentStaysCard : Claim7 := { stood := { row := paymentStaysRow, standIns := [], harness := (true, "8ec954cbe1783df7fa3853193cf22383be32bedf84f96ca197a7b91368eafade"), looks := true }, kinds := [], alts := [], laidByText := true, laidKinds := [.handle], laidTests := true, laidLooks := .later }
def PaymentStaysCardSaid : Prop := Claim7.holds Tryd.pinned (.plain (OpenSpec.ofChange paymentStaysSpec)) paymentStaysCard

/-- THE TIED CARD OF 'hawalalaw12.PaymentParts'. -/
def paymentPartsCard : Claim7 := { stood := { row := paymentPartsRow, standIns := [], harness := (true, "8ec954cbe1783df7fa3853193cf22383be32bedf84f96ca197a7b91368eafade"), looks := true }, kinds := [], alts := [], laidByText := true, laidKinds := [.handle], laidTests := true, laidLooks := .later }
def PaymentPartsCardSaid : Prop := Claim7.holds Tryd.pinned (.plain (OpenSpec.ofChange paymentPartsSpec)) paymentPartsCard

/-- THE TIED CARD OF 'hawalalaw12.PaymentAny'. -/
def paymentAnyCard : Claim7 := { stood := { row := paymentAnyRow, standIns := [], harness := (true, "8ec954cbe1783df7fa3853193cf22383be32bedf84f96ca197a7b91368eafade"), looks := true }, kinds := [], alts := [], laidByText := true, laidKinds := [.handle], laidTests := true, laidLooks := .later }
def PaymentAnyCardSaid : Prop := Claim7.holds Tryd.pinned (.plain (OpenSpec.ofChange paymentAnySpec)) paymentAnyCard

/-- THE TIED CARD OF 'hawalalaw12.PaymentVoid'. -/
def paymentVoidCard : Claim7 := { stood := { row := paymentVoidRow, standIns := [], harness := (true, "8ec954cbe1783df7fa3853193cf22383be32bedf84f96ca197a7b91368eafade"), looks := true }, kinds := [], alts := [], laidByText := true, laidKinds := [.handle], laidTests := true, laidLooks := .later }
def PaymentVoidCardSaid : Prop := Claim7.holds Tryd.pinned (.plain (OpenSpec.ofChange paymentVoidSpec)) paymentVoidCard

/-- THE SECOND FORM's CARD OF 'hawalalaw12.PaymentDo'. -/
def paymentDoUptoCard : Claim7 := { stood := { row := paymentDoUptoRow, standIns := [], harness := (true, "8ec954cbe1783df7fa3853193cf22383be32bedf84f96ca197a7b91368eafade"), looks := true }, kinds := [], alts := [], laidByText := true, laidKinds := [.handle], laidTests := true, laidLooks := .later }
def PaymentDoUptoCardSaid : Prop := Claim7.holds Tryd.pinned (.plain (OpenSpec.upto paymentDoSpec)) paymentDoUptoCard

/-- THE SECOND FORM's CARD OF 'hawalalaw12.PaymentRight'. -/
def paymentRightUptoCard : Claim7 := { stood := { row := paymentRightUptoRow, standIns := [], harness := (true, "8ec954cbe1783df7fa3853193cf22383be32bedf84f96ca197a7b91368eafade"), looks := true }, kinds := [], alts := [], laidByText := true, laidKinds := [.handle], laidTests := true, laidLooks := .later }
def PaymentRightUptoCardSaid : Prop := Claim7.holds Tryd.pinned (.plain (OpenSpec.upto paymentRightSpec)) paymentRightUptoCard

/-- THE SECOND FORM's CARD OF 'hawalalaw12.PaymentStays'. -/
def paymentStaysUptoCard : Claim7 := { stood := { row := paymentStaysUptoRow, standIns := [], harness := (true, "8ec954cbe1783df7fa3853193cf22383be32bedf84f96ca197a7b91368eafade"), looks := true }, kinds := [], alts := [], laidByText := true, laidKinds := [.handle], laidTests := true, laidLooks := .later }
def PaymentStaysUptoCardSaid : Prop := Claim7.holds Tryd.pinned (.plain (OpenSpec.upto paymentStaysSpec)) paymentStaysUptoCard

/-- THE SECOND FORM's CARD OF 'hawalalaw12.PaymentParts'. -/
def paymentPartsUptoCard : Claim7 := { stood := { row := paymentPartsUptoRow, standIns := [], harness := (true, "8ec954cbe1783df7fa3853193cf22383be32bedf84f96ca197a7b91368eafade"), looks := true }, kinds := [], alts := [], laidByText := true, laidKinds := [.handle], laidTests := true, laidLooks := .later }
def PaymentPartsUptoCardSaid : Prop := Claim7.holds Tryd.pinned (.plain (OpenSpec.upto paymentPartsSpec)) paymentPartsUptoCard

/-- THE SECOND FORM's CARD OF 'hawalalaw12.PaymentAny'. -/
def paymentAnyUptoCard : Claim7 := { stood := { row := paymentAnyUptoRow, standIns := [], harness := (true, "8ec954cbe1783df7fa3853193cf22383be32bedf84f96ca197a7b91368eafade"), looks := true }, kinds := [], alts := [], laidByText := true, laidKinds := [.handle], laidTests := true, laidLooks := .later }
def PaymentAnyUptoCardSaid : Prop := Claim7.holds Tryd.pinned (.plain (OpenSpec.upto paymentAnySpec)) paymentAnyUptoCard

/-- THE SECOND FORM's CARD OF 'hawalalaw12.PaymentVoid'. -/
def paymentVoidUptoCard : Claim7 := { stood := { row := paymentVoidUptoRow, standIns := [], harness := (true, "8ec954cbe1783df7fa3853193cf22383be32bedf84f96ca197a7b91368eafade"), looks := true }, kinds := [], alts := [], laidByText := true, laidKinds := [.handle], laidTests := true, laidLooks := .later }
def PaymentVoidUptoCardSaid : Prop := Claim7.holds Tryd.pinned (.plain (OpenSpec.upto paymentVoidSpec)) paymentVoidUptoCard
end Rows
end Go.Proofs.YtenghafnpmlbnaaDoor
