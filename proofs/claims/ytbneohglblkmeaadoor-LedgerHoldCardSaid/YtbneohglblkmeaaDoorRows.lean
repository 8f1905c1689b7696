/-
  NARROWER THAN 'FOR EVERY INPUT', by the rows' own cells (each row's printed sentence says how): LedgerPost: laid · LedgerHold: laid · LedgerSpend: laid · LedgerRight: laid · LedgerBack: laid.
  DERIVED. THE GIVEN ROWS OF THIS SEAT. 5 by the template 'for every input the law returns true; each argument reads behind the call as it read before'; 0 by the template 'total and deterministic' (their statements: YtbneohglblkmeaaDoorTotals.lean).
  GIVEN WITH THE SEED: the statements are not yours to turn. If you find one false, say at which input.
  Laid BY PROGRAM, IN A SANDBOX (cutbox-rows.mjs): the forced cells as the released guide's own fill.sh prints them over the translation 6611b7b82fa3ba64… (all of the seat's roots in one cut). By AI agents, Wed Nov 11 2026. No macro, syntax, notation, axiom, sorry.
-/
import Derived.Test.YtbneohglblkmeaaDoorChecked
import GoSem.Claim
import GoSem.ClaimJoined
import GoSem.ClaimMapViews
import Derived.JoinedTies
import Derived.KernelRfl
namespace Go.Proofs.YtbneohglblkmeaaDoor
/- THE CELL 'sum', in the pinned program and in every row, IS THE sha256 OF THE DUMP (.gsa) THAT YtbneohglblkmeaaDoorProg.lean LOADS. Nothing in Lean hashes anything: it is a label: what it is worth is what the hold of that sum in a sandbox is worth. -/
noncomputable def Tryd.pinned : Pinned := { name := "ytbneohglblkmeaadoor", sum := "6611b7b82fa3ba649b567a96a7de0f0566994e75b37169f2420add97ed62cf43", checked := Tryd.checked }
namespace Rows
def none {H : Type} : Left H := { results := [], args := [] }

/- WHAT THE LISTED PACKAGE-LEVEL VARIABLES READ AS WHEN THE CALL BEGINS. Each datum BY PROGRAM (the guide's laid-datum.mjs) off the statement by which the dump's own 'gosem.cut.vars' lays the variable. In a bare row this is a premise. The card (YtbneohglblkmeaaDoorCards.lean) ties it to the program's text. -/
def laid_errors_errorType {H : Type} : DataW H := .iface "internal/reflectlite.rtype" (.agg [.ptr (.lit (.string [101, 114, 114, 111, 114]))])

/-- 'hawalalaw09.LedgerPost': WHATEVER THE INPUT: true; the input reads as it did. -/
def ledgerPostSpec : ChangeSpec := { name := "ledgerPost", fn := fun _ => fun
  | [d1, d2, d3, d4] => { results := [.lit (.bool true)], args := [d1, d2, d3, d4] }
  | _ => none }
def ledgerPostRow : OpenClaim := { program := "ytbneohglblkmeaadoor", sum := "6611b7b82fa3ba649b567a96a7de0f0566994e75b37169f2420add97ed62cf43", func := "hawala/hawalalaw09.LedgerPost", spec := "ledgerPost", inPlace := ["internal/reflectlite.ValueOf", "(internal/reflectlite.Value).Type", "(internal/reflectlite.Value).IsNil", "internal/reflectlite.TypeOf", "(internal/reflectlite.Value).Elem", "(internal/reflectlite.Value).Set"], unfollowed := true, recurses := true, named := ["errors.errorType"], apart := false, laid := [("errors.errorType", laid_errors_errorType)] }
def LedgerPostSaid : Prop := ledgerPostRow.holds Tryd.pinned (OpenSpec.ofChange ledgerPostSpec)

/-- ITS FALSE NEIGHBOUR: 'it returns false'. Refute it at one input. -/
def ledgerPostWrong : ChangeSpec := { name := "ledgerPost", fn := fun _ => fun
  | [d1, d2, d3, d4] => { results := [.lit (.bool false)], args := [d1, d2, d3, d4] }
  | _ => none }
def LedgerPostWrongFalsely : Prop := ledgerPostRow.holds Tryd.pinned (OpenSpec.ofChange ledgerPostWrong)

/-- 'hawalalaw09.LedgerHold': WHATEVER THE INPUT: true; the input reads as it did. -/
def ledgerHoldSpec : ChangeSpec := { name := "ledgerHold", fn := fun _ => fun
  | [d1, d2, d3] => { results := [.lit (.bool true)], args := [d1, d2, d3] }
  | _ => none }
def ledgerHoldRow : OpenClaim := { program := "ytbneohglblkmeaadoor", sum := "6611b7b82fa3ba649b567a96a7de0f0566994e75b37169f2420add97ed62cf43", func := "hawala/hawalalaw09.LedgerHold", spec := "ledgerHold", inPlace := ["internal/reflectlite.ValueOf", "(internal/reflectlite.Value).Type", "(internal/reflectlite.Value).IsNil", "internal/reflectlite.TypeOf", "(internal/reflectlite.Value).Elem", "(internal/reflectlite.Value).Set"], unfollowed := true, recurses := true, named := ["errors.errorType"], apart := false, laid := [("errors.errorType", laid_errors_errorType)] }
def LedgerHoldSaid : Prop := ledgerHoldRow.holds Tryd.pinned (OpenSpec.ofChange ledgerHoldSpec)

/-- ITS FALSE NEIGHBOUR: 'it returns false'. Refute it at one input. -/
def ledgerHoldWrong : ChangeSpec := { name := "ledgerHold", fn := fun _ => fun
  | [d1, d2, d3] => { results := [.lit (.bool false)], args := [d1, d2, d3] }
  | _ => none }
def LedgerHoldWrongFalsely : Prop := ledgerHoldRow.holds Tryd.pinned (OpenSpec.ofChange ledgerHoldWrong)

/-- 'hawalalaw09.LedgerSpend': WHATEVER THE INPUT: true; the input reads as it did. -/
def ledgerSpendSpec : ChangeSpec := { name := "ledgerSpend", fn := fun _ => fun
  | [d1, d2, d3, d4, d5] => { results := [.lit (.bool true)], args := [d1, d2, d3, d4, d5] }
  | _ => none }
def ledgerSpendRow : OpenClaim := { program := "ytbneohglblkmeaadoor", sum := "6611b7b82fa3ba649b567a96a7de0f0566994e75b37169f2420add97ed62cf43", func := "hawala/hawalalaw09.LedgerSpend", spec := "ledgerSpend", inPlace := ["internal/reflectlite.ValueOf", "(internal/reflectlite.Value).Type", "(internal/reflectlite.Value).IsNil", "internal/reflectlite.TypeOf", "(internal/reflectlite.Value).Elem", "(internal/reflectlite.Value).Set"], unfollowed := true, recurses := true, named := ["errors.errorType"], apart := false, laid := [("errors.errorType", laid_errors_errorType)] }
def LedgerSpendSaid : Prop := ledgerSpendRow.holds Tryd.pinned (OpenSpec.ofChange ledgerSpendSpec)

/-- ITS FALSE NEIGHBOUR: 'it returns false'. Refute it at one input. -/
def ledgerSpendWrong : ChangeSpec := { name := "ledgerSpend", fn := fun _ => fun
  | [d1, d2, d3, d4, d5] => { results := [.lit (.bool false)], args := [d1, d2, d3, d4, d5] }
  | _ => none }
def LedgerSpendWrongFalsely : Prop := ledgerSpendRow.holds Tryd.pinned (OpenSpec.ofChange ledgerSpendWrong)

/-- 'hawalalaw09.LedgerRight': WHATEVER THE INPUT: true; the input reads as it did. -/
def ledgerRightSpec : ChangeSpec := { name := "ledgerRight", fn := fun _ => fun
  | [d1, d2, d3, d4] => { results := [.lit (.bool true)], args := [d1, d2, d3, d4] }
  | _ => none }
def ledgerRightRow : OpenClaim := { program := "ytbneohglblkmeaadoor", sum := "6611b7b82fa3ba649b567a96a7de0f0566994e75b37169f2420add97ed62cf43", func := "hawala/hawalalaw09.LedgerRight", spec := "ledgerRight", inPlace := ["internal/reflectlite.ValueOf", "(internal/reflectlite.Value).Type", "(internal/reflectlite.Value).IsNil", "internal/reflectlite.TypeOf", "(internal/reflectlite.Value).Elem", "(internal/reflectlite.Value).Set"], unfollowed := true, recurses := true, named := ["errors.errorType"], apart := false, laid := [("errors.errorType", laid_errors_errorType)] }
def LedgerRightSaid : Prop := ledgerRightRow.holds Tryd.pinned (OpenSpec.ofChange ledgerRightSpec)

/-- ITS FALSE NEIGHBOUR: 'it returns false'. Refute it at one input. -/
def ledgerRightWrong : ChangeSpec := { name := "ledgerRight", fn := fun _ => fun
  | [d1, d2, d3, d4] => { results := [.lit (.bool false)], args := [d1, d2, d3, d4] }
  | _ => none }
def LedgerRightWrongFalsely : Prop := ledgerRightRow.holds Tryd.pinned (OpenSpec.ofChange ledgerRightWrong)

/-- 'hawalalaw09.LedgerBack': WHATEVER THE INPUT: true; the input reads as it did. -/
def ledgerBackSpec : ChangeSpec := { name := "ledgerBack", fn := fun _ => fun
  | [d1, d2, d3, d4] => { results := [.lit (.bool true)], args := [d1, d2, d3, d4] }
  | _ => none }
def ledgerBackRow : OpenClaim := { program := "ytbneohglblkmeaadoor", sum := "6611b7b82fa3ba649b567a96a7de0f0566994e75b37169f2420add97ed62cf43", func := "hawala/hawalalaw09.LedgerBack", spec := "ledgerBack", inPlace := ["internal/reflectlite.ValueOf", "(internal/reflectlite.Value).Type", "(internal/reflectlite.Value).IsNil", "internal/reflectlite.TypeOf", "(internal/reflectlite.Value).Elem", "(internal/reflectlite.Value).Set"], unfollowed := true, recurses := true, named := ["errors.errorType"], apart := false, laid := [("errors.errorType", laid_errors_errorType)] }
def LedgerBackSaid : Prop := ledgerBackRow.holds Tryd.pinned (OpenSpec.ofChange ledgerBackSpec)

/-- ITS FALSE NEIGHBOUR: 'it returns false'. Refute it at one input. -/
def ledgerBackWrong : ChangeSpec := { name := "ledgerBack", fn := fun _ => fun
  | [d1, d2, d3, d4] => { results := [.lit (.bool false)], args := [d1, d2, d3, d4] }
  | _ => none }
def LedgerBackWrongFalsely : Prop := ledgerBackRow.holds Tryd.pinned (OpenSpec.ofChange ledgerBackWrong)

/- THE SECOND FORM. 'bulk': how many values and letters a reading holds, each counted each time it is reached (what is shared counts as often as it is met; a slice's spare places count too). A statement '..UptoSaid' is the law's where the arguments, and the package variables that the reading takes, are together of bulk at most 1048576: NARROWER than '..Said'. Prove '..Said' where nothing that the law and all that it calls make is longer than what came in: it says more and counts as full. Else prove '..UptoSaid'. A law counts once. -/
mutual
def uptoBulk {H : Type} : DataW H → Nat
  | .lit (.string bytes) => bytes.length + 1
  | .lit _ => 1
  | .nil => 1
  | .ptr d => uptoBulk d + 1
  | .slice elems spare => uptoBulkAll elems + uptoBulkAll spare + 1
  | .agg parts => uptoBulkAll parts + 1
  | .iface _ d => uptoBulk d + 1
  | .map entries => uptoBulkEntries entries + 1
  | .held _ => 1
def uptoBulkAll {H : Type} : List (DataW H) → Nat
  | [] => 0
  | d :: r => uptoBulk d + uptoBulkAll r
def uptoBulkEntries {H : Type} : List (Lit × DataW H) → Nat
  | [] => 0
  | x :: r => uptoBulkEntry x + uptoBulkEntries r
def uptoBulkEntry {H : Type} : Lit × DataW H → Nat
  | (.string bytes, d) => bytes.length + uptoBulk d + 1
  | (_, d) => uptoBulk d + 1
 end
def uptoSmall : (H : Type) → List (DataW H) → Bool := fun _ ds => decide (uptoBulkAll ds ≤ 1048576)
def OpenSpec.upto (s : _root_.Go.ChangeSpec) : _root_.Go.OpenSpec := { _root_.Go.OpenSpec.ofChange s with cond := some uptoSmall }

/-- 'hawalalaw09.LedgerPost', WHERE WHAT IT READS IS OF BULK AT MOST 1048576: true; the input reads as it did. -/
def ledgerPostUptoRow : OpenClaim := { program := "ytbneohglblkmeaadoor", sum := "6611b7b82fa3ba649b567a96a7de0f0566994e75b37169f2420add97ed62cf43", func := "hawala/hawalalaw09.LedgerPost", spec := "ledgerPost", inPlace := ["internal/reflectlite.ValueOf", "(internal/reflectlite.Value).Type", "(internal/reflectlite.Value).IsNil", "internal/reflectlite.TypeOf", "(internal/reflectlite.Value).Elem", "(internal/reflectlite.Value).Set"], unfollowed := true, recurses := true, named := ["errors.errorType"], apart := false, laid := [("errors.errorType", laid_errors_errorType)], narrowed := true }
def LedgerPostUptoSaid : Prop := ledgerPostUptoRow.holds Tryd.pinned (OpenSpec.upto ledgerPostSpec)

/-- 'hawalalaw09.LedgerHold', WHERE WHAT IT READS IS OF BULK AT MOST 1048576: true; the input reads as it did. -/
def ledgerHoldUptoRow : OpenClaim := { program := "ytbneohglblkmeaadoor", sum := "6611b7b82fa3ba649b567a96a7de0f0566994e75b37169f2420add97ed62cf43", func := "hawala/hawalalaw09.LedgerHold", spec := "ledgerHold", inPlace := ["internal/reflectlite.ValueOf", "(internal/reflectlite.Value).Type", "(internal/reflectlite.Value).IsNil", "internal/reflectlite.TypeOf", "(internal/reflectlite.Value).Elem", "(internal/reflectlite.Value).Set"], unfollowed := true, recurses := true, named := ["errors.errorType"], apart := false, laid := [("errors.errorType", laid_errors_errorType)], narrowed := true }
def LedgerHoldUptoSaid : Prop := ledgerHoldUptoRow.holds Tryd.pinned (OpenSpec.upto ledgerHoldSpec)

/-- 'hawalalaw09.LedgerSpend', WHERE WHAT IT READS IS OF BULK AT MOST 1048576: true; the input reads as it did. -/
def ledgerSpendUptoRow : OpenClaim := { program := "ytbneohglblkmeaadoor", sum := "6611b7b82fa3ba649b567a96a7de0f0566994e75b37169f2420add97ed62cf43", func := "hawala/hawalalaw09.LedgerSpend", spec := "ledgerSpend", inPlace := ["internal/reflectlite.ValueOf", "(internal/reflectlite.Value).Type", "(internal/reflectlite.Value).IsNil", "internal/reflectlite.TypeOf", "(internal/reflectlite.Value).Elem", "(internal/reflectlite.Value).Set"], unfollowed := true, recurses := true, named := ["errors.errorType"], apart := false, laid := [("errors.errorType", laid_errors_errorType)], narrowed := true }
def LedgerSpendUptoSaid : Prop := ledgerSpendUptoRow.holds Tryd.pinned (OpenSpec.upto ledgerSpendSpec)

/-- 'hawalalaw09.LedgerRight', WHERE WHAT IT READS IS OF BULK AT MOST 1048576: true; the input reads as it did. -/
def ledgerRightUptoRow : OpenClaim := { program := "ytbneohglblkmeaadoor", sum := "6611b7b82fa3ba649b567a96a7de0f0566994e75b37169f2420add97ed62cf43", func := "hawala/hawalalaw09.LedgerRight", spec := "ledgerRight", inPlace := ["internal/reflectlite.ValueOf", "(internal/reflectlite.Value).Type", "(internal/reflectlite.Value).IsNil", "internal/reflectlite.TypeOf", "(internal/reflectlite.Value).Elem", "(internal/reflectlite.Value).Set"], unfollowed := true, recurses := true, named := ["errors.errorType"], apart := false, laid := [("errors.errorType", laid_errors_errorType)], narrowed := true }
def LedgerRightUptoSaid : Prop := ledgerRightUptoRow.holds Tryd.pinned (OpenSpec.upto ledgerRightSpec)

/-- 'hawalalaw09.LedgerBack', WHERE WHAT IT READS IS OF BULK AT MOST 1048576: true; the input reads as it did. -/
def ledgerBackUptoRow : OpenClaim := { program := "ytbneohglblkmeaadoor", sum := "6611b7b82fa3ba649b567a96a7de0f0566994e75b37169f2420add97ed62cf43", func := "hawala/hawalalaw09.LedgerBack", spec := "ledgerBack", inPlace := ["internal/reflectlite.ValueOf", "(internal/reflectlite.Value).Type", "(internal/reflectlite.Value).IsNil", "internal/reflectlite.TypeOf", "(internal/reflectlite.Value).Elem", "(internal/reflectlite.Value).Set"], unfollowed := true, recurses := true, named := ["errors.errorType"], apart := false, laid := [("errors.errorType", laid_errors_errorType)], narrowed := true }
def LedgerBackUptoSaid : Prop := ledgerBackUptoRow.holds Tryd.pinned (OpenSpec.upto ledgerBackSpec)

end Rows
end Go.Proofs.YtbneohglblkmeaaDoor
