/-
  No cell of these rows narrows 'for every input' (looked for: loops, veiled, ifaces, maps, wideKeys, modest, calm, conditions, laid).
  DERIVED. THE GIVEN ROWS OF THIS SEAT. 6 by the template 'for every input the law returns true; each argument reads behind the call as it read before'; 0 by the template 'total and deterministic' (their statements: YtenepkhglgfpaaaTotals.lean).
  GIVEN WITH THE SEED: the statements are not yours to turn. If you find one false, say at which input.
  Laid BY PROGRAM, IN A SANDBOX (cutbox-rows.mjs): the forced cells as the released guide's own fill.sh prints them over the translation d99061ec3cfa45a9… (all of the seat's roots in one cut). By AI agents, Wed Nov 11 2026. No macro, syntax, notation, axiom, sorry.
-/
import Derived.Test.YtenepkhglgfpaaaChecked
import GoSem.Claim
import GoSem.ClaimJoined
import GoSem.ClaimMapViews
import Derived.JoinedTies
import Derived.KernelRfl
namespace Go.Proofs.Ytenepkhglgfpaaa
/- THE CELL 'sum', in the pinned program and in every row, IS THE sha256 OF THE DUMP (.gsa) THAT YtenepkhglgfpaaaProg.lean LOADS. Nothing in Lean hashes anything: it is a label: what it is worth is what the hold of that sum in a sandbox is worth. -/
noncomputable def Try.pinned : Pinned := { name := "ytenepkhglgfpaaa", sum := "d99061ec3cfa45a9027eb9a4173d4e517e9b8d52f14274fa247bcd14fdf09e12", checked := Try.checked }
namespace Rows
def none {H : Type} : Left H := { results := [], args := [] }

/-- 'hawalalaw10.RequestMay': WHATEVER THE INPUT: true; the input reads as it did. -/
def requestMaySpec : ChangeSpec := { name := "requestMay", fn := fun _ => fun
  | [d1, d2] => { results := [.lit (.bool true)], args := [d1, d2] }
  | _ => none }
def requestMayRow : OpenClaim := { program := "ytenepkhglgfpaaa", sum := "d99061ec3cfa45a9027eb9a4173d4e517e9b8d52f14274fa247bcd14fdf09e12", func := "hawala/hawalalaw10.RequestMay", spec := "requestMay", apart := false }
def RequestMaySaid : Prop := requestMayRow.holds Try.pinned (OpenSpec.ofChange requestMaySpec)

/-- ITS FALSE NEIGHBOUR: 'it returns false'. Refute it at one input. -/
def requestMayWrong : ChangeSpec := { name := "requestMay", fn := fun _ => fun
  | [d1, d2] => { results := [.lit (.bool false)], args := [d1, d2] }
  | _ => none }
def RequestMayWrongFalsely : Prop := requestMayRow.holds Try.pinned (OpenSpec.ofChange requestMayWrong)

/-- 'hawalalaw10.RequestBack': WHATEVER THE INPUT: true; the input reads as it did. -/
def requestBackSpec : ChangeSpec := { name := "requestBack", fn := fun _ => fun
  | [d1, d2, d3] => { results := [.lit (.bool true)], args := [d1, d2, d3] }
  | _ => none }
def requestBackRow : OpenClaim := { program := "ytenepkhglgfpaaa", sum := "d99061ec3cfa45a9027eb9a4173d4e517e9b8d52f14274fa247bcd14fdf09e12", func := "hawala/hawalalaw10.RequestBack", spec := "requestBack", apart := false }
def RequestBackSaid : Prop := requestBackRow.holds Try.pinned (OpenSpec.ofChange requestBackSpec)

/-- ITS FALSE NEIGHBOUR: 'it returns false'. Refute it at one input. -/
def requestBackWrong : ChangeSpec := { name := "requestBack", fn := fun _ => fun
  | [d1, d2, d3] => { results := [.lit (.bool false)], args := [d1, d2, d3] }
  | _ => none }
def RequestBackWrongFalsely : Prop := requestBackRow.holds Try.pinned (OpenSpec.ofChange requestBackWrong)

/-- 'hawalalaw10.RequestRead': WHATEVER THE INPUT: true; the input reads as it did. -/
def requestReadSpec : ChangeSpec := { name := "requestRead", fn := fun _ => fun
  | [d1, d2, d3, d4] => { results := [.lit (.bool true)], args := [d1, d2, d3, d4] }
  | _ => none }
def requestReadRow : OpenClaim := { program := "ytenepkhglgfpaaa", sum := "d99061ec3cfa45a9027eb9a4173d4e517e9b8d52f14274fa247bcd14fdf09e12", func := "hawala/hawalalaw10.RequestRead", spec := "requestRead", apart := false }
def RequestReadSaid : Prop := requestReadRow.holds Try.pinned (OpenSpec.ofChange requestReadSpec)

/-- ITS FALSE NEIGHBOUR: 'it returns false'. Refute it at one input. -/
def requestReadWrong : ChangeSpec := { name := "requestRead", fn := fun _ => fun
  | [d1, d2, d3, d4] => { results := [.lit (.bool false)], args := [d1, d2, d3, d4] }
  | _ => none }
def RequestReadWrongFalsely : Prop := requestReadRow.holds Try.pinned (OpenSpec.ofChange requestReadWrong)

/-- 'hawalalaw10.RequestReply': WHATEVER THE INPUT: true; the input reads as it did. -/
def requestReplySpec : ChangeSpec := { name := "requestReply", fn := fun _ => fun
  | [d1, d2, d3, d4] => { results := [.lit (.bool true)], args := [d1, d2, d3, d4] }
  | _ => none }
def requestReplyRow : OpenClaim := { program := "ytenepkhglgfpaaa", sum := "d99061ec3cfa45a9027eb9a4173d4e517e9b8d52f14274fa247bcd14fdf09e12", func := "hawala/hawalalaw10.RequestReply", spec := "requestReply", apart := false }
def RequestReplySaid : Prop := requestReplyRow.holds Try.pinned (OpenSpec.ofChange requestReplySpec)

/-- ITS FALSE NEIGHBOUR: 'it returns false'. Refute it at one input. -/
def requestReplyWrong : ChangeSpec := { name := "requestReply", fn := fun _ => fun
  | [d1, d2, d3, d4] => { results := [.lit (.bool false)], args := [d1, d2, d3, d4] }
  | _ => none }
def RequestReplyWrongFalsely : Prop := requestReplyRow.holds Try.pinned (OpenSpec.ofChange requestReplyWrong)

/-- 'hawalalaw10.RequestTwo': WHATEVER THE INPUT: true; the input reads as it did. -/
def requestTwoSpec : ChangeSpec := { name := "requestTwo", fn := fun _ => fun
  | [d1, d2] => { results := [.lit (.bool true)], args := [d1, d2] }
  | _ => none }
def requestTwoRow : OpenClaim := { program := "ytenepkhglgfpaaa", sum := "d99061ec3cfa45a9027eb9a4173d4e517e9b8d52f14274fa247bcd14fdf09e12", func := "hawala/hawalalaw10.RequestTwo", spec := "requestTwo", apart := false }
def RequestTwoSaid : Prop := requestTwoRow.holds Try.pinned (OpenSpec.ofChange requestTwoSpec)

/-- ITS FALSE NEIGHBOUR: 'it returns false'. Refute it at one input. -/
def requestTwoWrong : ChangeSpec := { name := "requestTwo", fn := fun _ => fun
  | [d1, d2] => { results := [.lit (.bool false)], args := [d1, d2] }
  | _ => none }
def RequestTwoWrongFalsely : Prop := requestTwoRow.holds Try.pinned (OpenSpec.ofChange requestTwoWrong)

/-- 'hawalalaw10.RequestLong': WHATEVER THE INPUT: true; the input reads as it did. -/
def requestLongSpec : ChangeSpec := { name := "requestLong", fn := fun _ => fun
  | [d1, d2, d3] => { results := [.lit (.bool true)], args := [d1, d2, d3] }
  | _ => none }
def requestLongRow : OpenClaim := { program := "ytenepkhglgfpaaa", sum := "d99061ec3cfa45a9027eb9a4173d4e517e9b8d52f14274fa247bcd14fdf09e12", func := "hawala/hawalalaw10.RequestLong", spec := "requestLong", apart := false }
def RequestLongSaid : Prop := requestLongRow.holds Try.pinned (OpenSpec.ofChange requestLongSpec)

/-- ITS FALSE NEIGHBOUR: 'it returns false'. Refute it at one input. -/
def requestLongWrong : ChangeSpec := { name := "requestLong", fn := fun _ => fun
  | [d1, d2, d3] => { results := [.lit (.bool false)], args := [d1, d2, d3] }
  | _ => none }
def RequestLongWrongFalsely : Prop := requestLongRow.holds Try.pinned (OpenSpec.ofChange requestLongWrong)

/- THE SECOND FORM. 'bulk': how many values and letters a reading holds, each counted each time it is reached (what is shared counts as often as it is met; a slice's spare places count too). A statement '..UptoSaid' is the law's where the arguments, and the package variables that the reading takes, are together of bulk at most 1048576: NARROWER than '..Said'. Prove '..Said' where nothing that the law and all that it calls make is longer than what came in: it says more and counts as full. Else prove '..UptoSaid'. A law counts once. -/
mutual
def uptoBulk {H : Type} : DataW H → Nat
  | .lit (.string bytes) => bytes.length + 1
  | .lit _ => 1
  | .nil => 1
  | .ptr d => uptoBulk d + 1
  | .slice elems spare => uptoBulkAll elems + uptoBulkAll spare + 1
  | .agg parts => uptoBulkAll parts + 1
  | .iface _ d => uptoBulk d + 1
  | .map entries => uptoBulkEntries entries + 1
  | .held _ => 1
def uptoBulkAll {H : Type} : List (DataW H) → Nat
  | [] => 0
  | d :: r => uptoBulk d + uptoBulkAll r
def uptoBulkEntries {H : Type} : List (Lit × DataW H) → Nat
  | [] => 0
  | x :: r => uptoBulkEntry x + uptoBulkEntries r
def uptoBulkEntry {H : Type} : Lit × DataW H → Nat
  | (.string bytes, d) => bytes.length + uptoBulk d + 1
  | (_, d) => uptoBulk d + 1
 end
def uptoSmall : (H : Type) → List (DataW H) → Bool := fun _ ds => decide (uptoBulkAll ds ≤ 1048576)
def OpenSpec.upto (s : _root_.Go.ChangeSpec) : _root_.Go.OpenSpec := { _root_.Go.OpenSpec.ofChange s with cond := some uptoSmall }

/-- 'hawalalaw10.RequestMay', WHERE WHAT IT READS IS OF BULK AT MOST 1048576: true; the input reads as it did. -/
def requestMayUptoRow : OpenClaim := { program := "ytenepkhglgfpaaa", sum := "d99061ec3cfa45a9027eb9a4173d4e517e9b8d52f14274fa247bcd14fdf09e12", func := "hawala/hawalalaw10.RequestMay", spec := "requestMay", apart := false, narrowed := true }
def RequestMayUptoSaid : Prop := requestMayUptoRow.holds Try.pinned (OpenSpec.upto requestMaySpec)

/-- 'hawalalaw10.RequestBack', WHERE WHAT IT READS IS OF BULK AT MOST 1048576: true; the input reads as it did. -/
def requestBackUptoRow : OpenClaim := { program := "ytenepkhglgfpaaa", sum := "d99061ec3cfa45a9027eb9a4173d4e517e9b8d52f14274fa247bcd14fdf09e12", func := "hawala/hawalalaw10.RequestBack", spec := "requestBack", apart := false, narrowed := true }
def RequestBackUptoSaid : Prop := requestBackUptoRow.holds Try.pinned (OpenSpec.upto requestBackSpec)

/-- 'hawalalaw10.RequestRead', WHERE WHAT IT READS IS OF BULK AT MOST 1048576: true; the input reads as it did. -/
def requestReadUptoRow : OpenClaim := { program := "ytenepkhglgfpaaa", sum := "d99061ec3cfa45a9027eb9a4173d4e517e9b8d52f14274fa247bcd14fdf09e12", func := "hawala/hawalalaw10.RequestRead", spec := "requestRead", apart := false, narrowed := true }
def RequestReadUptoSaid : Prop := requestReadUptoRow.holds Try.pinned (OpenSpec.upto requestReadSpec)

/-- 'hawalalaw10.RequestReply', WHERE WHAT IT READS IS OF BULK AT MOST 1048576: true; the input reads as it did. -/
def requestReplyUptoRow : OpenClaim := { program := "ytenepkhglgfpaaa", sum := "d99061ec3cfa45a9027eb9a4173d4e517e9b8d52f14274fa247bcd14fdf09e12", func := "hawala/hawalalaw10.RequestReply", spec := "requestReply", apart := false, narrowed := true }
def RequestReplyUptoSaid : Prop := requestReplyUptoRow.holds Try.pinned (OpenSpec.upto requestReplySpec)

/-- 'hawalalaw10.RequestTwo', WHERE WHAT IT READS IS OF BULK AT MOST 1048576: true; the input reads as it did. -/
def requestTwoUptoRow : OpenClaim := { program := "ytenepkhglgfpaaa", sum := "d99061ec3cfa45a9027eb9a4173d4e517e9b8d52f14274fa247bcd14fdf09e12", func := "hawala/hawalalaw10.RequestTwo", spec := "requestTwo", apart := false, narrowed := true }
def RequestTwoUptoSaid : Prop := requestTwoUptoRow.holds Try.pinned (OpenSpec.upto requestTwoSpec)

/-- 'hawalalaw10.RequestLong', WHERE WHAT IT READS IS OF BULK AT MOST 1048576: true; the input reads as it did. -/
def requestLongUptoRow : OpenClaim := { program := "ytenepkhglgfpaaa", sum := "d99061ec3cfa45a9027eb9a4173d4e517e9b8d52f14274fa247bcd14fdf09e12", func := "hawala/hawalalaw10.RequestLong", spec := "requestLong", apart := false, narrowed := true }
def RequestLongUptoSaid : Prop := requestLongUptoRow.holds Try.pinned (OpenSpec.upto requestLongSpec)

end Rows
end Go.Proofs.Ytenepkhglgfpaaa
