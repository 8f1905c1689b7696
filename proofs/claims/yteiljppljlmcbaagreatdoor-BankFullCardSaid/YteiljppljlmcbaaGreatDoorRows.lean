/-
  NARROWER THAN 'FOR EVERY INPUT', by the rows' own cells (each row's printed sentence says how): BankRun: laid · BankAgain: laid · BankBad: laid · BankFull: laid · BankLegs: laid.
  DERIVED. THE GIVEN ROWS OF THIS SEAT. 5 by the template 'for every input the law returns true; each argument reads behind the call as it read before'; 0 by the template 'total and deterministic' (their statements: YteiljppljlmcbaaGreatDoorTotals.lean).
  GIVEN WITH THE SEED: the statements are not yours to turn. If you find one false, say at which input.
  Laid BY PROGRAM, IN A SANDBOX (cutbox-rows.mjs): the forced cells as the released guide's own fill.sh prints them over the translation bfb27dff8880044d… (all of the seat's roots in one cut). By AI agents, Wed Nov 11 2026. No macro, syntax, notation, axiom, sorry.
-/
import Derived.Test.YteiljppljlmcbaaGreatDoorChecked
import GoSem.Claim
import GoSem.ClaimJoined
import GoSem.ClaimMapViews
import Derived.JoinedTies
import Derived.KernelRfl
namespace Go.Proofs.YteiljppljlmcbaaGreatDoor
/- THE CELL 'sum', in the pinned program and in every row, IS THE sha256 OF THE DUMP (.gsa) THAT YteiljppljlmcbaaGreatDoorProg.lean LOADS. Nothing in Lean hashes anything: it is a label: what it is worth is what the hold of that sum in a sandbox is worth. -/
noncomputable def Tryz.pinned : Pinned := { name := "yteiljppljlmcbaagreatdoor", sum := "bfb27dff8880044dca6379a971b24af1635c4b1fc7891dfbbd7b6bf880e8bfc8", checked := Tryz.checked }
namespace Rows
def none {H : Type} : Left H := { results := [], args := [] }

/- WHAT THE LISTED PACKAGE-LEVEL VARIABLES READ AS WHEN THE CALL BEGINS. Each datum BY PROGRAM (the guide's laid-datum.mjs) off the statement by which the dump's own 'gosem.cut.vars' lays the variable. In a bare row this is a premise. The card (YteiljppljlmcbaaGreatDoorCards.lean) ties it to the program's text. -/
def laid_errors_errorType {H : Type} : DataW H := .iface "internal/reflectlite.rtype" (.agg [.ptr (.lit (.string [101, 114, 114, 111, 114]))])

/-- 'hawalalaw16.BankRun': WHATEVER THE INPUT: true; the input reads as it did. -/
def bankRunSpec : ChangeSpec := { name := "bankRun", fn := fun _ => fun
  | [d1, d2, d3, d4] => { results := [.lit (.bool true)], args := [d1, d2, d3, d4] }
  | _ => none }
def bankRunRow : OpenClaim := { program := "yteiljppljlmcbaagreatdoor", sum := "bfb27dff8880044dca6379a971b24af1635c4b1fc7891dfbbd7b6bf880e8bfc8", func := "hawala/hawalalaw16.BankRun", spec := "bankRun", inPlace := ["internal/reflectlite.ValueOf", "(internal/reflectlite.Value).Type", "(internal/reflectlite.Value).IsNil", "internal/reflectlite.TypeOf", "(internal/reflectlite.Value).Elem", "(internal/reflectlite.Value).Set"], unfollowed := true, recurses := true, named := ["errors.errorType"], apart := false, laid := [("errors.errorType", laid_errors_errorType)] }
def BankRunSaid : Prop := bankRunRow.holds Tryz.pinned (OpenSpec.ofChange bankRunSpec)

/-- ITS FALSE NEIGHBOUR: 'it returns false'. Refute it at one input. -/
def bankRunWrong : ChangeSpec := { name := "bankRun", fn := fun _ => fun
  | [d1, d2, d3, d4] => { results := [.lit (.bool false)], args := [d1, d2, d3, d4] }
  | _ => none }
def BankRunWrongFalsely : Prop := bankRunRow.holds Tryz.pinned (OpenSpec.ofChange bankRunWrong)

/-- 'hawalalaw16.BankAgain': WHATEVER THE INPUT: true; the input reads as it did. -/
def bankAgainSpec : ChangeSpec := { name := "bankAgain", fn := fun _ => fun
  | [d1, d2, d3, d4] => { results := [.lit (.bool true)], args := [d1, d2, d3, d4] }
  | _ => none }
def bankAgainRow : OpenClaim := { program := "yteiljppljlmcbaagreatdoor", sum := "bfb27dff8880044dca6379a971b24af1635c4b1fc7891dfbbd7b6bf880e8bfc8", func := "hawala/hawalalaw16.BankAgain", spec := "bankAgain", inPlace := ["internal/reflectlite.ValueOf", "(internal/reflectlite.Value).Type", "(internal/reflectlite.Value).IsNil", "internal/reflectlite.TypeOf", "(internal/reflectlite.Value).Elem", "(internal/reflectlite.Value).Set"], unfollowed := true, recurses := true, named := ["errors.errorType"], apart := false, laid := [("errors.errorType", laid_errors_errorType)] }
def BankAgainSaid : Prop := bankAgainRow.holds Tryz.pinned (OpenSpec.ofChange bankAgainSpec)

/-- ITS FALSE NEIGHBOUR: 'it returns false'. Refute it at one input. -/
def bankAgainWrong : ChangeSpec := { name := "bankAgain", fn := fun _ => fun
  | [d1, d2, d3, d4] => { results := [.lit (.bool false)], args := [d1, d2, d3, d4] }
  | _ => none }
def BankAgainWrongFalsely : Prop := bankAgainRow.holds Tryz.pinned (OpenSpec.ofChange bankAgainWrong)

/-- 'hawalalaw16.BankBad': WHATEVER THE INPUT: true; the input reads as it did. -/
def bankBadSpec : ChangeSpec := { name := "bankBad", fn := fun _ => fun
  | [d1, d2, d3] => { results := [.lit (.bool true)], args := [d1, d2, d3] }
  | _ => none }
def bankBadRow : OpenClaim := { program := "yteiljppljlmcbaagreatdoor", sum := "bfb27dff8880044dca6379a971b24af1635c4b1fc7891dfbbd7b6bf880e8bfc8", func := "hawala/hawalalaw16.BankBad", spec := "bankBad", inPlace := ["internal/reflectlite.ValueOf", "(internal/reflectlite.Value).Type", "(internal/reflectlite.Value).IsNil", "internal/reflectlite.TypeOf", "(internal/reflectlite.Value).Elem", "(internal/reflectlite.Value).Set"], unfollowed := true, recurses := true, named := ["errors.errorType"], apart := false, laid := [("errors.errorType", laid_errors_errorType)] }
def BankBadSaid : Prop := bankBadRow.holds Tryz.pinned (OpenSpec.ofChange bankBadSpec)

/-- ITS FALSE NEIGHBOUR: 'it returns false'. Refute it at one input. -/
def bankBadWrong : ChangeSpec := { name := "bankBad", fn := fun _ => fun
  | [d1, d2, d3] => { results := [.lit (.bool false)], args := [d1, d2, d3] }
  | _ => none }
def BankBadWrongFalsely : Prop := bankBadRow.holds Tryz.pinned (OpenSpec.ofChange bankBadWrong)

/-- 'hawalalaw16.BankFull': WHATEVER THE INPUT: true; the input reads as it did. -/
def bankFullSpec : ChangeSpec := { name := "bankFull", fn := fun _ => fun
  | [d1, d2] => { results := [.lit (.bool true)], args := [d1, d2] }
  | _ => none }
def bankFullRow : OpenClaim := { program := "yteiljppljlmcbaagreatdoor", sum := "bfb27dff8880044dca6379a971b24af1635c4b1fc7891dfbbd7b6bf880e8bfc8", func := "hawala/hawalalaw16.BankFull", spec := "bankFull", inPlace := ["internal/reflectlite.ValueOf", "(internal/reflectlite.Value).Type", "(internal/reflectlite.Value).IsNil", "internal/reflectlite.TypeOf", "(internal/reflectlite.Value).Elem", "(internal/reflectlite.Value).Set"], unfollowed := true, recurses := true, named := ["errors.errorType"], apart := false, laid := [("errors.errorType", laid_errors_errorType)] }
def BankFullSaid : Prop := bankFullRow.holds Tryz.pinned (OpenSpec.ofChange bankFullSpec)

/-- ITS FALSE NEIGHBOUR: 'it returns false'. Refute it at one input. -/
def bankFullWrong : ChangeSpec := { name := "bankFull", fn := fun _ => fun
  | [d1, d2] => { results := [.lit (.bool false)], args := [d1, d2] }
  | _ => none }
def BankFullWrongFalsely : Prop := bankFullRow.holds Tryz.pinned (OpenSpec.ofChange bankFullWrong)

/-- 'hawalalaw16.BankLegs': WHATEVER THE INPUT: true; the input reads as it did. -/
def bankLegsSpec : ChangeSpec := { name := "bankLegs", fn := fun _ => fun
  | [d1, d2] => { results := [.lit (.bool true)], args := [d1, d2] }
  | _ => none }
def bankLegsRow : OpenClaim := { program := "yteiljppljlmcbaagreatdoor", sum := "bfb27dff8880044dca6379a971b24af1635c4b1fc7891dfbbd7b6bf880e8bfc8", func := "hawala/hawalalaw16.BankLegs", spec := "bankLegs", inPlace := ["internal/reflectlite.ValueOf", "(internal/reflectlite.Value).Type", "(internal/reflectlite.Value).IsNil", "internal/reflectlite.TypeOf", "(internal/reflectlite.Value).Elem", "(internal/reflectlite.Value).Set"], unfollowed := true, recurses := true, named := ["errors.errorType"], apart := false, laid := [("errors.errorType", laid_errors_errorType)] }
def BankLegsSaid : Prop := bankLegsRow.holds Tryz.pinned (OpenSpec.ofChange bankLegsSpec)

/-- ITS FALSE NEIGHBOUR: 'it returns false'. Refute it at one input. -/
def bankLegsWrong : ChangeSpec := { name := "bankLegs", fn := fun _ => fun
  | [d1, d2] => { results := [.lit (.bool false)], args := [d1, d2] }
  | _ => none }
def BankLegsWrongFalsely : Prop := bankLegsRow.holds Tryz.pinned (OpenSpec.ofChange bankLegsWrong)

/- THE SECOND FORM. 'bulk': how many values and letters a reading holds, each counted each time it is reached (what is shared counts as often as it is met; a slice's spare places count too). A statement '..UptoSaid' is the law's where the arguments, and the package variables that the reading takes, are together of bulk at most 1048576: NARROWER than '..Said'. Prove '..Said' where nothing that the law and all that it calls make is longer than what came in: it says more and counts as full. Else prove '..UptoSaid'. A law counts once. -/
mutual
def uptoBulk {H : Type} : DataW H → Nat
  | .lit (.string bytes) => bytes.length + 1
  | .lit _ => 1
  | .nil => 1
  | .ptr d => uptoBulk d + 1
  | .slice elems spare => uptoBulkAll elems + uptoBulkAll spare + 1
  | .agg parts => uptoBulkAll parts + 1
  | .iface _ d => uptoBulk d + 1
  | .map entries => uptoBulkEntries entries + 1
  | .held _ => 1
def uptoBulkAll {H : Type} : List (DataW H) → Nat
  | [] => 0
  | d :: r => uptoBulk d + uptoBulkAll r
def uptoBulkEntries {H : Type} : List (Lit × DataW H) → Nat
  | [] => 0
  | x :: r => uptoBulkEntry x + uptoBulkEntries r
def uptoBulkEntry {H : Type} : Lit × DataW H → Nat
  | (.string bytes, d) => bytes.length + uptoBulk d + 1
  | (_, d) => uptoBulk d + 1
 end
def uptoSmall : (H : Type) → List (DataW H) → Bool := fun _ ds => decide (uptoBulkAll ds ≤ 1048576)
def OpenSpec.upto (s : _root_.Go.ChangeSpec) : _root_.Go.OpenSpec := { _root_.Go.OpenSpec.ofChange s with cond := some uptoSmall }

/-- 'hawalalaw16.BankRun', WHERE WHAT IT READS IS OF BULK AT MOST 1048576: true; the input reads as it did. -/
def bankRunUptoRow : OpenClaim := { program := "yteiljppljlmcbaagreatdoor", sum := "bfb27dff8880044dca6379a971b24af1635c4b1fc7891dfbbd7b6bf880e8bfc8", func := "hawala/hawalalaw16.BankRun", spec := "bankRun", inPlace := ["internal/reflectlite.ValueOf", "(internal/reflectlite.Value).Type", "(internal/reflectlite.Value).IsNil", "internal/reflectlite.TypeOf", "(internal/reflectlite.Value).Elem", "(internal/reflectlite.Value).Set"], unfollowed := true, recurses := true, named := ["errors.errorType"], apart := false, laid := [("errors.errorType", laid_errors_errorType)], narrowed := true }
def BankRunUptoSaid : Prop := bankRunUptoRow.holds Tryz.pinned (OpenSpec.upto bankRunSpec)

/-- 'hawalalaw16.BankAgain', WHERE WHAT IT READS IS OF BULK AT MOST 1048576: true; the input reads as it did. -/
def bankAgainUptoRow : OpenClaim := { program := "yteiljppljlmcbaagreatdoor", sum := "bfb27dff8880044dca6379a971b24af1635c4b1fc7891dfbbd7b6bf880e8bfc8", func := "hawala/hawalalaw16.BankAgain", spec := "bankAgain", inPlace := ["internal/reflectlite.ValueOf", "(internal/reflectlite.Value).Type", "(internal/reflectlite.Value).IsNil", "internal/reflectlite.TypeOf", "(internal/reflectlite.Value).Elem", "(internal/reflectlite.Value).Set"], unfollowed := true, recurses := true, named := ["errors.errorType"], apart := false, laid := [("errors.errorType", laid_errors_errorType)], narrowed := true }
def BankAgainUptoSaid : Prop := bankAgainUptoRow.holds Tryz.pinned (OpenSpec.upto bankAgainSpec)

/-- 'hawalalaw16.BankBad', WHERE WHAT IT READS IS OF BULK AT MOST 1048576: true; the input reads as it did. -/
def bankBadUptoRow : OpenClaim := { program := "yteiljppljlmcbaagreatdoor", sum := "bfb27dff8880044dca6379a971b24af1635c4b1fc7891dfbbd7b6bf880e8bfc8", func := "hawala/hawalalaw16.BankBad", spec := "bankBad", inPlace := ["internal/reflectlite.ValueOf", "(internal/reflectlite.Value).Type", "(internal/reflectlite.Value).IsNil", "internal/reflectlite.TypeOf", "(internal/reflectlite.Value).Elem", "(internal/reflectlite.Value).Set"], unfollowed := true, recurses := true, named := ["errors.errorType"], apart := false, laid := [("errors.errorType", laid_errors_errorType)], narrowed := true }
def BankBadUptoSaid : Prop := bankBadUptoRow.holds Tryz.pinned (OpenSpec.upto bankBadSpec)

/-- 'hawalalaw16.BankFull', WHERE WHAT IT READS IS OF BULK AT MOST 1048576: true; the input reads as it did. -/
def bankFullUptoRow : OpenClaim := { program := "yteiljppljlmcbaagreatdoor", sum := "bfb27dff8880044dca6379a971b24af1635c4b1fc7891dfbbd7b6bf880e8bfc8", func := "hawala/hawalalaw16.BankFull", spec := "bankFull", inPlace := ["internal/reflectlite.ValueOf", "(internal/reflectlite.Value).Type", "(internal/reflectlite.Value).IsNil", "internal/reflectlite.TypeOf", "(internal/reflectlite.Value).Elem", "(internal/reflectlite.Value).Set"], unfollowed := true, recurses := true, named := ["errors.errorType"], apart := false, laid := [("errors.errorType", laid_errors_errorType)], narrowed := true }
def BankFullUptoSaid : Prop := bankFullUptoRow.holds Tryz.pinned (OpenSpec.upto bankFullSpec)

/-- 'hawalalaw16.BankLegs', WHERE WHAT IT READS IS OF BULK AT MOST 1048576: true; the input reads as it did. -/
def bankLegsUptoRow : OpenClaim := { program := "yteiljppljlmcbaagreatdoor", sum := "bfb27dff8880044dca6379a971b24af1635c4b1fc7891dfbbd7b6bf880e8bfc8", func := "hawala/hawalalaw16.BankLegs", spec := "bankLegs", inPlace := ["internal/reflectlite.ValueOf", "(internal/reflectlite.Value).Type", "(internal/reflectlite.Value).IsNil", "internal/reflectlite.TypeOf", "(internal/reflectlite.Value).Elem", "(internal/reflectlite.Value).Set"], unfollowed := true, recurses := true, named := ["errors.errorType"], apart := false, laid := [("errors.errorType", laid_errors_errorType)], narrowed := true }
def BankLegsUptoSaid : Prop := bankLegsUptoRow.holds Tryz.pinned (OpenSpec.upto bankLegsSpec)

end Rows
end Go.Proofs.YteiljppljlmcbaaGreatDoor
