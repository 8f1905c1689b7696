/-
  NARROWER THAN 'FOR EVERY INPUT', by the rows' own cells (each row's printed sentence says how): PaymentDo: laid · PaymentRight: laid · PaymentStays: laid · PaymentParts: laid · PaymentAny: laid · PaymentVoid: laid.
  DERIVED. THE GIVEN ROWS OF THIS SEAT. 6 by the template 'for every input the law returns true; each argument reads behind the call as it read before'; 0 by the template 'total and deterministic' (their statements: YtenghafnpmlbnaaDoorTotals.lean).
  GIVEN WITH THE SEED: the statements are not yours to turn. If you find one false, say at which input.
  Laid BY PROGRAM, IN A SANDBOX (cutbox-rows.mjs): the forced cells as the released guide's own fill.sh prints them over the translation 132aad18914c10f9… (all of the seat's roots in one cut). By AI agents, Wed Nov 11 2026. No macro, syntax, notation, axiom, sorry.
-/
import Derived.Test.YtenghafnpmlbnaaDoorChecked
import GoSem.Claim
import GoSem.ClaimJoined
import GoSem.ClaimMapViews
import Derived.JoinedTies
import Derived.KernelRfl
namespace Go.Proofs.YtenghafnpmlbnaaDoor
/- THE CELL 'sum', in the pinned program and in every row, IS THE sha256 OF THE DUMP (.gsa) THAT YtenghafnpmlbnaaDoorProg.lean LOADS. Nothing in Lean hashes anything: it is a label: what it is worth is what the hold of that sum in a sandbox is worth. -/
noncomputable def Tryd.pinned : Pinned := { name := "ytenghafnpmlbnaadoor", sum := "132aad18914c10f9005ff35d83c8e7c4d3ecb0a5db044f89979c2af79f4be371", checked := Tryd.checked }
namespace Rows
def none {H : Type} : Left H := { results := [], args := [] }

/- WHAT THE LISTED PACKAGE-LEVEL VARIABLES READ AS WHEN THE CALL BEGINS. Each datum BY PROGRAM (the guide's laid-datum.mjs) off the statement by which the dump's own 'gosem.cut.vars' lays the variable. In a bare row this is a premise. The card (YtenghafnpmlbnaaDoorCards.lean) ties it to the program's text. -/
def laid_errors_errorType {H : Type} : DataW H := .iface "internal/reflectlite.rtype" (.agg [.ptr (.lit (.string [101, 114, 114, 111, 114]))])

/-- 'hawalalaw12.PaymentDo': WHATEVER THE INPUT: true; the input reads as it did. -/
def paymentDoSpec : ChangeSpec := { name := "paymentDo", fn := fun _ => fun
  | [d1, d2, d3, d4] => { results := [.lit (.bool true)], args := [d1, d2, d3, d4] }
  | _ => none }
def paymentDoRow : OpenClaim := { program := "ytenghafnpmlbnaadoor", sum := "132aad18914c10f9005ff35d83c8e7c4d3ecb0a5db044f89979c2af79f4be371", func := "hawala/hawalalaw12.PaymentDo", spec := "paymentDo", inPlace := ["internal/reflectlite.ValueOf", "(internal/reflectlite.Value).Type", "(internal/reflectlite.Value).IsNil", "internal/reflectlite.TypeOf", "(internal/reflectlite.Value).Elem", "(internal/reflectlite.Value).Set"], unfollowed := true, recurses := true, named := ["errors.errorType"], apart := false, laid := [("errors.errorType", laid_errors_errorType)] }
def PaymentDoSaid : Prop := paymentDoRow.holds Tryd.pinned (OpenSpec.ofChange paymentDoSpec)

/-- ITS FALSE NEIGHBOUR: 'it returns false'. Refute it at one input. -/
def paymentDoWrong : ChangeSpec := { name := "paymentDo", fn := fun _ => fun
  | [d1, d2, d3, d4] => { results := [.lit (.bool false)], args := [d1, d2, d3, d4] }
  | _ => none }
def PaymentDoWrongFalsely : Prop := paymentDoRow.holds Tryd.pinned (OpenSpec.ofChange paymentDoWrong)

/-- 'hawalalaw12.PaymentRight': WHATEVER THE INPUT: true; the input reads as it did. -/
def paymentRightSpec : ChangeSpec := { name := "paymentRight", fn := fun _ => fun
  | [d1, d2] => { results := [.lit (.bool true)], args := [d1, d2] }
  | _ => none }
def paymentRightRow : OpenClaim := { program := "ytenghafnpmlbnaadoor", sum := "132aad18914c10f9005ff35d83c8e7c4d3ecb0a5db044f89979c2af79f4be371", func := "hawala/hawalalaw12.PaymentRight", spec := "paymentRight", inPlace := ["internal/reflectlite.ValueOf", "(internal/reflectlite.Value).Type", "(internal/reflectlite.Value).IsNil", "internal/reflectlite.TypeOf", "(internal/reflectlite.Value).Elem", "(internal/reflectlite.Value).Set"], unfollowed := true, recurses := true, named := ["errors.errorType"], apart := false, laid := [("errors.errorType", laid_errors_errorType)] }
def PaymentRightSaid : Prop := paymentRightRow.holds Tryd.pinned (OpenSpec.ofChange paymentRightSpec)

/-- ITS FALSE NEIGHBOUR: 'it returns false'. Refute it at one input. -/
def paymentRightWrong : ChangeSpec := { name := "paymentRight", fn := fun _ => fun
  | [d1, d2] => { results := [.lit (.bool false)], args := [d1, d2] }
  | _ => none }
def PaymentRightWrongFalsely : Prop := paymentRightRow.holds Tryd.pinned (OpenSpec.ofChange paymentRightWrong)

/-- 'hawalalaw12.PaymentStays': WHATEVER THE INPUT: true; the input reads as it did. -/
def paymentStaysSpec : ChangeSpec := { name := "paymentStays", fn := fun _ => fun
  | [d1, d2, d3] => { results := [.lit (.bool true)], args := [d1, d2, d3] }
  | _ => none }
def paymentStaysRow : OpenClaim := { program := "ytenghafnpmlbnaadoor", sum := "132aad18914c10f9005ff35d83c8e7c4d3ecb0a5db044f89979c2af79f4be371", func := "hawala/hawalalaw12.PaymentStays", spec := "paymentStays", inPlace := ["internal/reflectlite.ValueOf", "(internal/reflectlite.Value).Type", "(internal/reflectlite.Value).IsNil", "internal/reflectlite.TypeOf", "(internal/reflectlite.Value).Elem", "(internal/reflectlite.Value).Set"], unfollowed := true, recurses := true, named := ["errors.errorType"], apart := false, laid := [("errors.errorType", laid_errors_errorType)] }
def PaymentStaysSaid : Prop := paymentStaysRow.holds Tryd.pinned (OpenSpec.ofChange paymentStaysSpec)

/-- ITS FALSE NEIGHBOUR: 'it returns false'. Refute it at one input. -/
def paymentStaysWrong : ChangeSpec := { name := "paymentStays", fn := fun _ => fun
  | [d1, d2, d3] => { results := [.lit (.bool false)], args := [d1, d2, d3] }
  | _ => none }
def PaymentStaysWrongFalsely : Prop := paymentStaysRow.holds Tryd.pinned (OpenSpec.ofChange paymentStaysWrong)

/-- 'hawalalaw12.PaymentParts': WHATEVER THE INPUT: true; the input reads as it did. -/
def paymentPartsSpec : ChangeSpec := { name := "paymentParts", fn := fun _ => fun
  | [d1, d2, d3, d4] => { results := [.lit (.bool true)], args := [d1, d2, d3, d4] }
  | _ => none }
def paymentPartsRow : OpenClaim := { program := "ytenghafnpmlbnaadoor", sum := "132aad18914c10f9005ff35d83c8e7c4d3ecb0a5db044f89979c2af79f4be371", func := "hawala/hawalalaw12.PaymentParts", spec := "paymentParts", inPlace := ["internal/reflectlite.ValueOf", "(internal/reflectlite.Value).Type", "(internal/reflectlite.Value).IsNil", "internal/reflectlite.TypeOf", "(internal/reflectlite.Value).Elem", "(internal/reflectlite.Value).Set"], unfollowed := true, recurses := true, named := ["errors.errorType"], apart := false, laid := [("errors.errorType", laid_errors_errorType)] }
def PaymentPartsSaid : Prop := paymentPartsRow.holds Tryd.pinned (OpenSpec.ofChange paymentPartsSpec)

/-- ITS FALSE NEIGHBOUR: 'it returns false'. Refute it at one input. -/
def paymentPartsWrong : ChangeSpec := { name := "paymentParts", fn := fun _ => fun
  | [d1, d2, d3, d4] => { results := [.lit (.bool false)], args := [d1, d2, d3, d4] }
  | _ => none }
def PaymentPartsWrongFalsely : Prop := paymentPartsRow.holds Tryd.pinned (OpenSpec.ofChange paymentPartsWrong)

/-- 'hawalalaw12.PaymentAny': WHATEVER THE INPUT: true; the input reads as it did. -/
def paymentAnySpec : ChangeSpec := { name := "paymentAny", fn := fun _ => fun
  | [d1, d2, d3] => { results := [.lit (.bool true)], args := [d1, d2, d3] }
  | _ => none }
def paymentAnyRow : OpenClaim := { program := "ytenghafnpmlbnaadoor", sum := "132aad18914c10f9005ff35d83c8e7c4d3ecb0a5db044f89979c2af79f4be371", func := "hawala/hawalalaw12.PaymentAny", spec := "paymentAny", inPlace := ["internal/reflectlite.ValueOf", "(internal/reflectlite.Value).Type", "(internal/reflectlite.Value).IsNil", "internal/reflectlite.TypeOf", "(internal/reflectlite.Value).Elem", "(internal/reflectlite.Value).Set"], unfollowed := true, recurses := true, named := ["errors.errorType"], apart := false, laid := [("errors.errorType", laid_errors_errorType)] }
def PaymentAnySaid : Prop := paymentAnyRow.holds Tryd.pinned (OpenSpec.ofChange paymentAnySpec)

/-- ITS FALSE NEIGHBOUR: 'it returns false'. Refute it at one input. -/
def paymentAnyWrong : ChangeSpec := { name := "paymentAny", fn := fun _ => fun
  | [d1, d2, d3] => { results := [.lit (.bool false)], args := [d1, d2, d3] }
  | _ => none }
def PaymentAnyWrongFalsely : Prop := paymentAnyRow.holds Tryd.pinned (OpenSpec.ofChange paymentAnyWrong)

/-- 'hawalalaw12.PaymentVoid': WHATEVER THE INPUT: true; the input reads as it did. -/
def paymentVoidSpec : ChangeSpec := { name := "paymentVoid", fn := fun _ => fun
  | [d1, d2] => { results := [.lit (.bool true)], args := [d1, d2] }
  | _ => none }
def paymentVoidRow : OpenClaim := { program := "ytenghafnpmlbnaadoor", sum := "132aad18914c10f9005ff35d83c8e7c4d3ecb0a5db044f89979c2af79f4be371", func := "hawala/hawalalaw12.PaymentVoid", spec := "paymentVoid", inPlace := ["internal/reflectlite.ValueOf", "(internal/reflectlite.Value).Type", "(internal/reflectlite.Value).IsNil", "internal/reflectlite.TypeOf", "(internal/reflectlite.Value).Elem", "(internal/reflectlite.Value).Set"], unfollowed := true, recurses := true, named := ["errors.errorType"], apart := false, laid := [("errors.errorType", laid_errors_errorType)] }
def PaymentVoidSaid : Prop := paymentVoidRow.holds Tryd.pinned (OpenSpec.ofChange paymentVoidSpec)

/-- ITS FALSE NEIGHBOUR: 'it returns false'. Refute it at one input. -/
def paymentVoidWrong : ChangeSpec := { name := "paymentVoid", fn := fun _ => fun
  | [d1, d2] => { results := [.lit (.bool false)], args := [d1, d2] }
  | _ => none }
def PaymentVoidWrongFalsely : Prop := paymentVoidRow.holds Tryd.pinned (OpenSpec.ofChange paymentVoidWrong)

/- THE SECOND FORM. 'bulk': how many values and letters a reading holds, each counted each time it is reached (what is shared counts as often as it is met; a slice's spare places count too). A statement '..UptoSaid' is the law's where the arguments, and the package variables that the reading takes, are together of bulk at most 1048576: NARROWER than '..Said'. Prove '..Said' where nothing that the law and all that it calls make is longer than what came in: it says more and counts as full. Else prove '..UptoSaid'. A law counts once. -/
mutual
def uptoBulk {H : Type} : DataW H → Nat
  | .lit (.string bytes) => bytes.length + 1
  | .lit _ => 1
  | .nil => 1
  | .ptr d => uptoBulk d + 1
  | .slice elems spare => uptoBulkAll elems + uptoBulkAll spare + 1
  | .agg parts => uptoBulkAll parts + 1
  | .iface _ d => uptoBulk d + 1
  | .map entries => uptoBulkEntries entries + 1
  | .held _ => 1
def uptoBulkAll {H : Type} : List (DataW H) → Nat
  | [] => 0
  | d :: r => uptoBulk d + uptoBulkAll r
def uptoBulkEntries {H : Type} : List (Lit × DataW H) → Nat
  | [] => 0
  | x :: r => uptoBulkEntry x + uptoBulkEntries r
def uptoBulkEntry {H : Type} : Lit × DataW H → Nat
  | (.string bytes, d) => bytes.length + uptoBulk d + 1
  | (_, d) => uptoBulk d + 1
 end
def uptoSmall : (H : Type) → List (DataW H) → Bool := fun _ ds => decide (uptoBulkAll ds ≤ 1048576)
def OpenSpec.upto (s : _root_.Go.ChangeSpec) : _root_.Go.OpenSpec := { _root_.Go.OpenSpec.ofChange s with cond := some uptoSmall }

/-- 'hawalalaw12.PaymentDo', WHERE WHAT IT READS IS OF BULK AT MOST 1048576: true; the input reads as it did. -/
def paymentDoUptoRow : OpenClaim := { program := "ytenghafnpmlbnaadoor", sum := "132aad18914c10f9005ff35d83c8e7c4d3ecb0a5db044f89979c2af79f4be371", func := "hawala/hawalalaw12.PaymentDo", spec := "paymentDo", inPlace := ["internal/reflectlite.ValueOf", "(internal/reflectlite.Value).Type", "(internal/reflectlite.Value).IsNil", "internal/reflectlite.TypeOf", "(internal/reflectlite.Value).Elem", "(internal/reflectlite.Value).Set"], unfollowed := true, recurses := true, named := ["errors.errorType"], apart := false, laid := [("errors.errorType", laid_errors_errorType)], narrowed := true }
def PaymentDoUptoSaid : Prop := paymentDoUptoRow.holds Tryd.pinned (OpenSpec.upto paymentDoSpec)

/-- 'hawalalaw12.PaymentRight', WHERE WHAT IT READS IS OF BULK AT MOST 1048576: true; the input reads as it did. -/
def paymentRightUptoRow : OpenClaim := { program := "ytenghafnpmlbnaadoor", sum := "132aad18914c10f9005ff35d83c8e7c4d3ecb0a5db044f89979c2af79f4be371", func := "hawala/hawalalaw12.PaymentRight", spec := "paymentRight", inPlace := ["internal/reflectlite.ValueOf", "(internal/reflectlite.Value).Type", "(internal/reflectlite.Value).IsNil", "internal/reflectlite.TypeOf", "(internal/reflectlite.Value).Elem", "(internal/reflectlite.Value).Set"], unfollowed := true, recurses := true, named := ["errors.errorType"], apart := false, laid := [("errors.errorType", laid_errors_errorType)], narrowed := true }
def PaymentRightUptoSaid : Prop := paymentRightUptoRow.holds Tryd.pinned (OpenSpec.upto paymentRightSpec)

/-- 'hawalalaw12.PaymentStays', WHERE WHAT IT READS IS OF BULK AT MOST 1048576: true; the input reads as it did. -/
def paymentStaysUptoRow : OpenClaim := { program := "ytenghafnpmlbnaadoor", sum := "132aad18914c10f9005ff35d83c8e7c4d3ecb0a5db044f89979c2af79f4be371", func := "hawala/hawalalaw12.PaymentStays", spec := "paymentStays", inPlace := ["internal/reflectlite.ValueOf", "(internal/reflectlite.Value).Type", "(internal/reflectlite.Value).IsNil", "internal/reflectlite.TypeOf", "(internal/reflectlite.Value).Elem", "(internal/reflectlite.Value).Set"], unfollowed := true, recurses := true, named := ["errors.errorType"], apart := false, laid := [("errors.errorType", laid_errors_errorType)], narrowed := true }
def PaymentStaysUptoSaid : Prop := paymentStaysUptoRow.holds Tryd.pinned (OpenSpec.upto paymentStaysSpec)

/-- 'hawalalaw12.PaymentParts', WHERE WHAT IT READS IS OF BULK AT MOST 1048576: true; the input reads as it did. -/
def paymentPartsUptoRow : OpenClaim := { program := "ytenghafnpmlbnaadoor", sum := "132aad18914c10f9005ff35d83c8e7c4d3ecb0a5db044f89979c2af79f4be371", func := "hawala/hawalalaw12.PaymentParts", spec := "paymentParts", inPlace := ["internal/reflectlite.ValueOf", "(internal/reflectlite.Value).Type", "(internal/reflectlite.Value).IsNil", "internal/reflectlite.TypeOf", "(internal/reflectlite.Value).Elem", "(internal/reflectlite.Value).Set"], unfollowed := true, recurses := true, named := ["errors.errorType"], apart := false, laid := [("errors.errorType", laid_errors_errorType)], narrowed := true }
def PaymentPartsUptoSaid : Prop := paymentPartsUptoRow.holds Tryd.pinned (OpenSpec.upto paymentPartsSpec)

/-- 'hawalalaw12.PaymentAny', WHERE WHAT IT READS IS OF BULK AT MOST 1048576: true; the input reads as it did. -/
def paymentAnyUptoRow : OpenClaim := { program := "ytenghafnpmlbnaadoor", sum := "132aad18914c10f9005ff35d83c8e7c4d3ecb0a5db044f89979c2af79f4be371", func := "hawala/hawalalaw12.PaymentAny", spec := "paymentAny", inPlace := ["internal/reflectlite.ValueOf", "(internal/reflectlite.Value).Type", "(internal/reflectlite.Value).IsNil", "internal/reflectlite.TypeOf", "(internal/reflectlite.Value).Elem", "(internal/reflectlite.Value).Set"], unfollowed := true, recurses := true, named := ["errors.errorType"], apart := false, laid := [("errors.errorType", laid_errors_errorType)], narrowed := true }
def PaymentAnyUptoSaid : Prop := paymentAnyUptoRow.holds Tryd.pinned (OpenSpec.upto paymentAnySpec)

/-- 'hawalalaw12.PaymentVoid', WHERE WHAT IT READS IS OF BULK AT MOST 1048576: true; the input reads as it did. -/
def paymentVoidUptoRow : OpenClaim := { program := "ytenghafnpmlbnaadoor", sum := "132aad18914c10f9005ff35d83c8e7c4d3ecb0a5db044f89979c2af79f4be371", func := "hawala/hawalalaw12.PaymentVoid", spec := "paymentVoid", inPlace := ["internal/reflectlite.ValueOf", "(internal/reflectlite.Value).Type", "(internal/reflectlite.Value).IsNil", "internal/reflectlite.TypeOf", "(internal/reflectlite.Value).Elem", "(internal/reflectlite.Value).Set"], unfollowed := true, recurses := true, named := ["errors.errorType"], apart := false, laid := [("errors.errorType", laid_errors_errorType)], narrowed := true }
def PaymentVoidUptoSaid : Prop := paymentVoidUptoRow.holds Tryd.pinned (OpenSpec.upto paymentVoidSpec)

end Rows
end Go.Proofs.YtenghafnpmlbnaaDoor
