/-
  No cell of these rows narrows 'for every input' (looked for: loops, veiled, ifaces, maps, wideKeys, modest, calm, conditions, laid).
  DERIVED. THE GIVEN ROWS OF THIS SEAT. 6 by the template 'for every input the law returns true; each argument reads behind the call as it read before'; 0 by the template 'total and deterministic' (their statements: YtpcpocgagfpbhaaTotals.lean).
  GIVEN WITH THE SEED: the statements are not yours to turn. If you find one false, say at which input.
  Laid BY PROGRAM, IN A SANDBOX (cutbox-rows.mjs): the forced cells as the released guide's own fill.sh prints them over the translation 793853bd38993d4d… (all of the seat's roots in one cut). By AI agents, Wed Nov 11 2026. No macro, syntax, notation, axiom, sorry.
-/
import Derived.Test.YtpcpocgagfpbhaaChecked
import GoSem.Claim
import GoSem.ClaimJoined
import GoSem.ClaimMapViews
import Derived.JoinedTies
import Derived.KernelRfl
namespace Go.Proofs.Ytpcpocgagfpbhaa
/- THE CELL 'sum', in the pinned program and in every row, IS THE sha256 OF THE DUMP (.gsa) THAT YtpcpocgagfpbhaaProg.lean LOADS. Nothing in Lean hashes anything: it is a label: what it is worth is what the hold of that sum in a sandbox is worth. -/
noncomputable def Try.pinned : Pinned := { name := "ytpcpocgagfpbhaa", sum := "793853bd38993d4db08ea3cf0b68fecc412613c1d4eba7c132e3f35324d1741d", checked := Try.checked }
namespace Rows
def none {H : Type} : Left H := { results := [], args := [] }

/-- 'hawalalaw07.ChartRight': WHATEVER THE INPUT: true; the input reads as it did. -/
def chartRightSpec : ChangeSpec := { name := "chartRight", fn := fun _ => fun
  | [d1, d2, d3, d4] => { results := [.lit (.bool true)], args := [d1, d2, d3, d4] }
  | _ => none }
def chartRightRow : OpenClaim := { program := "ytpcpocgagfpbhaa", sum := "793853bd38993d4db08ea3cf0b68fecc412613c1d4eba7c132e3f35324d1741d", func := "hawala/hawalalaw07.ChartRight", spec := "chartRight", apart := false }
def ChartRightSaid : Prop := chartRightRow.holds Try.pinned (OpenSpec.ofChange chartRightSpec)

/-- ITS FALSE NEIGHBOUR: 'it returns false'. Refute it at one input. -/
def chartRightWrong : ChangeSpec := { name := "chartRight", fn := fun _ => fun
  | [d1, d2, d3, d4] => { results := [.lit (.bool false)], args := [d1, d2, d3, d4] }
  | _ => none }
def ChartRightWrongFalsely : Prop := chartRightRow.holds Try.pinned (OpenSpec.ofChange chartRightWrong)

/-- 'hawalalaw07.ChartOf': WHATEVER THE INPUT: true; the input reads as it did. -/
def chartOfSpec : ChangeSpec := { name := "chartOf", fn := fun _ => fun
  | [d1, d2, d3, d4] => { results := [.lit (.bool true)], args := [d1, d2, d3, d4] }
  | _ => none }
def chartOfRow : OpenClaim := { program := "ytpcpocgagfpbhaa", sum := "793853bd38993d4db08ea3cf0b68fecc412613c1d4eba7c132e3f35324d1741d", func := "hawala/hawalalaw07.ChartOf", spec := "chartOf", apart := false }
def ChartOfSaid : Prop := chartOfRow.holds Try.pinned (OpenSpec.ofChange chartOfSpec)

/-- ITS FALSE NEIGHBOUR: 'it returns false'. Refute it at one input. -/
def chartOfWrong : ChangeSpec := { name := "chartOf", fn := fun _ => fun
  | [d1, d2, d3, d4] => { results := [.lit (.bool false)], args := [d1, d2, d3, d4] }
  | _ => none }
def ChartOfWrongFalsely : Prop := chartOfRow.holds Try.pinned (OpenSpec.ofChange chartOfWrong)

/-- 'hawalalaw07.ChartSums': WHATEVER THE INPUT: true; the input reads as it did. -/
def chartSumsSpec : ChangeSpec := { name := "chartSums", fn := fun _ => fun
  | [d1, d2] => { results := [.lit (.bool true)], args := [d1, d2] }
  | _ => none }
def chartSumsRow : OpenClaim := { program := "ytpcpocgagfpbhaa", sum := "793853bd38993d4db08ea3cf0b68fecc412613c1d4eba7c132e3f35324d1741d", func := "hawala/hawalalaw07.ChartSums", spec := "chartSums", apart := false }
def ChartSumsSaid : Prop := chartSumsRow.holds Try.pinned (OpenSpec.ofChange chartSumsSpec)

/-- ITS FALSE NEIGHBOUR: 'it returns false'. Refute it at one input. -/
def chartSumsWrong : ChangeSpec := { name := "chartSums", fn := fun _ => fun
  | [d1, d2] => { results := [.lit (.bool false)], args := [d1, d2] }
  | _ => none }
def ChartSumsWrongFalsely : Prop := chartSumsRow.holds Try.pinned (OpenSpec.ofChange chartSumsWrong)

/-- 'hawalalaw07.ChartNew': WHATEVER THE INPUT: true; the input reads as it did. -/
def chartNewSpec : ChangeSpec := { name := "chartNew", fn := fun _ => fun
  | [d] => { results := [.lit (.bool true)], args := [d] }
  | _ => none }
def chartNewRow : OpenClaim := { program := "ytpcpocgagfpbhaa", sum := "793853bd38993d4db08ea3cf0b68fecc412613c1d4eba7c132e3f35324d1741d", func := "hawala/hawalalaw07.ChartNew", spec := "chartNew", apart := false }
def ChartNewSaid : Prop := chartNewRow.holds Try.pinned (OpenSpec.ofChange chartNewSpec)

/-- ITS FALSE NEIGHBOUR: 'it returns false'. Refute it at one input. -/
def chartNewWrong : ChangeSpec := { name := "chartNew", fn := fun _ => fun
  | [d] => { results := [.lit (.bool false)], args := [d] }
  | _ => none }
def ChartNewWrongFalsely : Prop := chartNewRow.holds Try.pinned (OpenSpec.ofChange chartNewWrong)

/-- 'hawalalaw07.ChartClone': WHATEVER THE INPUT: true; the input reads as it did. -/
def chartCloneSpec : ChangeSpec := { name := "chartClone", fn := fun _ => fun
  | [d1, d2, d3] => { results := [.lit (.bool true)], args := [d1, d2, d3] }
  | _ => none }
def chartCloneRow : OpenClaim := { program := "ytpcpocgagfpbhaa", sum := "793853bd38993d4db08ea3cf0b68fecc412613c1d4eba7c132e3f35324d1741d", func := "hawala/hawalalaw07.ChartClone", spec := "chartClone", apart := false }
def ChartCloneSaid : Prop := chartCloneRow.holds Try.pinned (OpenSpec.ofChange chartCloneSpec)

/-- ITS FALSE NEIGHBOUR: 'it returns false'. Refute it at one input. -/
def chartCloneWrong : ChangeSpec := { name := "chartClone", fn := fun _ => fun
  | [d1, d2, d3] => { results := [.lit (.bool false)], args := [d1, d2, d3] }
  | _ => none }
def ChartCloneWrongFalsely : Prop := chartCloneRow.holds Try.pinned (OpenSpec.ofChange chartCloneWrong)

/-- 'hawalalaw07.ChartLimit': WHATEVER THE INPUT: true; the input reads as it did. -/
def chartLimitSpec : ChangeSpec := { name := "chartLimit", fn := fun _ => fun
  | [d1, d2] => { results := [.lit (.bool true)], args := [d1, d2] }
  | _ => none }
def chartLimitRow : OpenClaim := { program := "ytpcpocgagfpbhaa", sum := "793853bd38993d4db08ea3cf0b68fecc412613c1d4eba7c132e3f35324d1741d", func := "hawala/hawalalaw07.ChartLimit", spec := "chartLimit", apart := false }
def ChartLimitSaid : Prop := chartLimitRow.holds Try.pinned (OpenSpec.ofChange chartLimitSpec)

/-- ITS FALSE NEIGHBOUR: 'it returns false'. Refute it at one input. -/
def chartLimitWrong : ChangeSpec := { name := "chartLimit", fn := fun _ => fun
  | [d1, d2] => { results := [.lit (.bool false)], args := [d1, d2] }
  | _ => none }
def ChartLimitWrongFalsely : Prop := chartLimitRow.holds Try.pinned (OpenSpec.ofChange chartLimitWrong)

/- THE SECOND FORM. 'bulk': how many values and letters a reading holds, each counted each time it is reached (what is shared counts as often as it is met; a slice's spare places count too). A statement '..UptoSaid' is the law's where the arguments, and the package variables that the reading takes, are together of bulk at most 1048576: NARROWER than '..Said'. Prove '..Said' where nothing that the law and all that it calls make is longer than what came in: it says more and counts as full. Else prove '..UptoSaid'. A law counts once. -/
mutual
def uptoBulk {H : Type} : DataW H → Nat
  | .lit (.string bytes) => bytes.length + 1
  | .lit _ => 1
  | .nil => 1
  | .ptr d => uptoBulk d + 1
  | .slice elems spare => uptoBulkAll elems + uptoBulkAll spare + 1
  | .agg parts => uptoBulkAll parts + 1
  | .iface _ d => uptoBulk d + 1
  | .map entries => uptoBulkEntries entries + 1
  | .held _ => 1
def uptoBulkAll {H : Type} : List (DataW H) → Nat
  | [] => 0
  | d :: r => uptoBulk d + uptoBulkAll r
def uptoBulkEntries {H : Type} : List (Lit × DataW H) → Nat
  | [] => 0
  | x :: r => uptoBulkEntry x + uptoBulkEntries r
def uptoBulkEntry {H : Type} : Lit × DataW H → Nat
  | (.string bytes, d) => bytes.length + uptoBulk d + 1
  | (_, d) => uptoBulk d + 1
 end
def uptoSmall : (H : Type) → List (DataW H) → Bool := fun _ ds => decide (uptoBulkAll ds ≤ 1048576)
def OpenSpec.upto (s : _root_.Go.ChangeSpec) : _root_.Go.OpenSpec := { _root_.Go.OpenSpec.ofChange s with cond := some uptoSmall }

/-- 'hawalalaw07.ChartRight', WHERE WHAT IT READS IS OF BULK AT MOST 1048576: true; the input reads as it did. -/
def chartRightUptoRow : OpenClaim := { program := "ytpcpocgagfpbhaa", sum := "793853bd38993d4db08ea3cf0b68fecc412613c1d4eba7c132e3f35324d1741d", func := "hawala/hawalalaw07.ChartRight", spec := "chartRight", apart := false, narrowed := true }
def ChartRightUptoSaid : Prop := chartRightUptoRow.holds Try.pinned (OpenSpec.upto chartRightSpec)

/-- 'hawalalaw07.ChartOf', WHERE WHAT IT READS IS OF BULK AT MOST 1048576: true; the input reads as it did. -/
def chartOfUptoRow : OpenClaim := { program := "ytpcpocgagfpbhaa", sum := "793853bd38993d4db08ea3cf0b68fecc412613c1d4eba7c132e3f35324d1741d", func := "hawala/hawalalaw07.ChartOf", spec := "chartOf", apart := false, narrowed := true }
def ChartOfUptoSaid : Prop := chartOfUptoRow.holds Try.pinned (OpenSpec.upto chartOfSpec)

/-- 'hawalalaw07.ChartSums', WHERE WHAT IT READS IS OF BULK AT MOST 1048576: true; the input reads as it did. -/
def chartSumsUptoRow : OpenClaim := { program := "ytpcpocgagfpbhaa", sum := "793853bd38993d4db08ea3cf0b68fecc412613c1d4eba7c132e3f35324d1741d", func := "hawala/hawalalaw07.ChartSums", spec := "chartSums", apart := false, narrowed := true }
def ChartSumsUptoSaid : Prop := chartSumsUptoRow.holds Try.pinned (OpenSpec.upto chartSumsSpec)

/-- 'hawalalaw07.ChartNew', WHERE WHAT IT READS IS OF BULK AT MOST 1048576: true; the input reads as it did. -/
def chartNewUptoRow : OpenClaim := { program := "ytpcpocgagfpbhaa", sum := "793853bd38993d4db08ea3cf0b68fecc412613c1d4eba7c132e3f35324d1741d", func := "hawala/hawalalaw07.ChartNew", spec := "chartNew", apart := false, narrowed := true }
def ChartNewUptoSaid : Prop := chartNewUptoRow.holds Try.pinned (OpenSpec.upto chartNewSpec)

/-- 'hawalalaw07.ChartClone', WHERE WHAT IT READS IS OF BULK AT MOST 1048576: true; the input reads as it did. -/
def chartCloneUptoRow : OpenClaim := { program := "ytpcpocgagfpbhaa", sum := "793853bd38993d4db08ea3cf0b68fecc412613c1d4eba7c132e3f35324d1741d", func := "hawala/hawalalaw07.ChartClone", spec := "chartClone", apart := false, narrowed := true }
def ChartCloneUptoSaid : Prop := chartCloneUptoRow.holds Try.pinned (OpenSpec.upto chartCloneSpec)

/-- 'hawalalaw07.ChartLimit', WHERE WHAT IT READS IS OF BULK AT MOST 1048576: true; the input reads as it did. -/
def chartLimitUptoRow : OpenClaim := { program := "ytpcpocgagfpbhaa", sum := "793853bd38993d4db08ea3cf0b68fecc412613c1d4eba7c132e3f35324d1741d", func := "hawala/hawalalaw07.ChartLimit", spec := "chartLimit", apart := false, narrowed := true }
def ChartLimitUptoSaid : Prop := chartLimitUptoRow.holds Try.pinned (OpenSpec.upto chartLimitSpec)

end Rows
end Go.Proofs.Ytpcpocgagfpbhaa
