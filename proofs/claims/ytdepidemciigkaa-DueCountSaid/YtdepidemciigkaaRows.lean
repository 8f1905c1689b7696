/-
  No cell of these rows narrows 'for every input' (looked for: loops, veiled, ifaces, maps, wideKeys, modest, calm, conditions, laid).
  DERIVED. THE GIVEN ROWS OF THIS SEAT. 6 by the template 'for every input the law returns true; each argument reads behind the call as it read before'; 0 by the template 'total and deterministic' (their statements: YtdepidemciigkaaTotals.lean).
  GIVEN WITH THE SEED: the statements are not yours to turn. If you find one false, say at which input.
  Laid BY PROGRAM, IN A SANDBOX (cutbox-rows.mjs): the forced cells as the released guide's own fill.sh prints them over the translation b18dbded3219fdeb… (all of the seat's roots in one cut). By AI agents, Wed Nov 11 2026. No macro, syntax, notation, axiom, sorry.
-/
import Derived.Test.YtdepidemciigkaaChecked
import GoSem.Claim
import GoSem.ClaimJoined
import GoSem.ClaimMapViews
import Derived.JoinedTies
import Derived.KernelRfl
namespace Go.Proofs.Ytdepidemciigkaa
/- THE CELL 'sum', in the pinned program and in every row, IS THE sha256 OF THE DUMP (.gsa) THAT YtdepidemciigkaaProg.lean LOADS. Nothing in Lean hashes anything: it is a label: what it is worth is what the hold of that sum in a sandbox is worth. -/
noncomputable def Try.pinned : Pinned := { name := "ytdepidemciigkaa", sum := "b18dbded3219fdebc64ed36aeebdab5678de8ce17c6fdb9caa8b615bf7099ec5", checked := Try.checked }
namespace Rows
def none {H : Type} : Left H := { results := [], args := [] }

/-- 'hawalalaw13.DueAll': WHATEVER THE INPUT: true; the input reads as it did. -/
def dueAllSpec : ChangeSpec := { name := "dueAll", fn := fun _ => fun
  | [d1, d2] => { results := [.lit (.bool true)], args := [d1, d2] }
  | _ => none }
def dueAllRow : OpenClaim := { program := "ytdepidemciigkaa", sum := "b18dbded3219fdebc64ed36aeebdab5678de8ce17c6fdb9caa8b615bf7099ec5", func := "hawala/hawalalaw13.DueAll", spec := "dueAll", unfollowed := true, recurses := true, apart := false }
def DueAllSaid : Prop := dueAllRow.holds Try.pinned (OpenSpec.ofChange dueAllSpec)

/-- ITS FALSE NEIGHBOUR: 'it returns false'. Refute it at one input. -/
def dueAllWrong : ChangeSpec := { name := "dueAll", fn := fun _ => fun
  | [d1, d2] => { results := [.lit (.bool false)], args := [d1, d2] }
  | _ => none }
def DueAllWrongFalsely : Prop := dueAllRow.holds Try.pinned (OpenSpec.ofChange dueAllWrong)

/-- 'hawalalaw13.DueBy': WHATEVER THE INPUT: true; the input reads as it did. -/
def dueBySpec : ChangeSpec := { name := "dueBy", fn := fun _ => fun
  | [d1, d2] => { results := [.lit (.bool true)], args := [d1, d2] }
  | _ => none }
def dueByRow : OpenClaim := { program := "ytdepidemciigkaa", sum := "b18dbded3219fdebc64ed36aeebdab5678de8ce17c6fdb9caa8b615bf7099ec5", func := "hawala/hawalalaw13.DueBy", spec := "dueBy", unfollowed := true, recurses := true, apart := false }
def DueBySaid : Prop := dueByRow.holds Try.pinned (OpenSpec.ofChange dueBySpec)

/-- ITS FALSE NEIGHBOUR: 'it returns false'. Refute it at one input. -/
def dueByWrong : ChangeSpec := { name := "dueBy", fn := fun _ => fun
  | [d1, d2] => { results := [.lit (.bool false)], args := [d1, d2] }
  | _ => none }
def DueByWrongFalsely : Prop := dueByRow.holds Try.pinned (OpenSpec.ofChange dueByWrong)

/-- 'hawalalaw13.DueNext': WHATEVER THE INPUT: true; the input reads as it did. -/
def dueNextSpec : ChangeSpec := { name := "dueNext", fn := fun _ => fun
  | [d] => { results := [.lit (.bool true)], args := [d] }
  | _ => none }
def dueNextRow : OpenClaim := { program := "ytdepidemciigkaa", sum := "b18dbded3219fdebc64ed36aeebdab5678de8ce17c6fdb9caa8b615bf7099ec5", func := "hawala/hawalalaw13.DueNext", spec := "dueNext", unfollowed := true, recurses := true, apart := false }
def DueNextSaid : Prop := dueNextRow.holds Try.pinned (OpenSpec.ofChange dueNextSpec)

/-- ITS FALSE NEIGHBOUR: 'it returns false'. Refute it at one input. -/
def dueNextWrong : ChangeSpec := { name := "dueNext", fn := fun _ => fun
  | [d] => { results := [.lit (.bool false)], args := [d] }
  | _ => none }
def DueNextWrongFalsely : Prop := dueNextRow.holds Try.pinned (OpenSpec.ofChange dueNextWrong)

/-- 'hawalalaw13.DueMore': WHATEVER THE INPUT: true; the input reads as it did. -/
def dueMoreSpec : ChangeSpec := { name := "dueMore", fn := fun _ => fun
  | [d1, d2] => { results := [.lit (.bool true)], args := [d1, d2] }
  | _ => none }
def dueMoreRow : OpenClaim := { program := "ytdepidemciigkaa", sum := "b18dbded3219fdebc64ed36aeebdab5678de8ce17c6fdb9caa8b615bf7099ec5", func := "hawala/hawalalaw13.DueMore", spec := "dueMore", unfollowed := true, recurses := true, apart := false }
def DueMoreSaid : Prop := dueMoreRow.holds Try.pinned (OpenSpec.ofChange dueMoreSpec)

/-- ITS FALSE NEIGHBOUR: 'it returns false'. Refute it at one input. -/
def dueMoreWrong : ChangeSpec := { name := "dueMore", fn := fun _ => fun
  | [d1, d2] => { results := [.lit (.bool false)], args := [d1, d2] }
  | _ => none }
def DueMoreWrongFalsely : Prop := dueMoreRow.holds Try.pinned (OpenSpec.ofChange dueMoreWrong)

/-- 'hawalalaw13.DueTime': WHATEVER THE INPUT: true; the input reads as it did. -/
def dueTimeSpec : ChangeSpec := { name := "dueTime", fn := fun _ => fun
  | [d1, d2, d3] => { results := [.lit (.bool true)], args := [d1, d2, d3] }
  | _ => none }
def dueTimeRow : OpenClaim := { program := "ytdepidemciigkaa", sum := "b18dbded3219fdebc64ed36aeebdab5678de8ce17c6fdb9caa8b615bf7099ec5", func := "hawala/hawalalaw13.DueTime", spec := "dueTime", unfollowed := true, recurses := true, apart := false }
def DueTimeSaid : Prop := dueTimeRow.holds Try.pinned (OpenSpec.ofChange dueTimeSpec)

/-- ITS FALSE NEIGHBOUR: 'it returns false'. Refute it at one input. -/
def dueTimeWrong : ChangeSpec := { name := "dueTime", fn := fun _ => fun
  | [d1, d2, d3] => { results := [.lit (.bool false)], args := [d1, d2, d3] }
  | _ => none }
def DueTimeWrongFalsely : Prop := dueTimeRow.holds Try.pinned (OpenSpec.ofChange dueTimeWrong)

/-- 'hawalalaw13.DueCount': WHATEVER THE INPUT: true; the input reads as it did. -/
def dueCountSpec : ChangeSpec := { name := "dueCount", fn := fun _ => fun
  | [d] => { results := [.lit (.bool true)], args := [d] }
  | _ => none }
def dueCountRow : OpenClaim := { program := "ytdepidemciigkaa", sum := "b18dbded3219fdebc64ed36aeebdab5678de8ce17c6fdb9caa8b615bf7099ec5", func := "hawala/hawalalaw13.DueCount", spec := "dueCount", unfollowed := true, recurses := true, apart := false }
def DueCountSaid : Prop := dueCountRow.holds Try.pinned (OpenSpec.ofChange dueCountSpec)

/-- ITS FALSE NEIGHBOUR: 'it returns false'. Refute it at one input. -/
def dueCountWrong : ChangeSpec := { name := "dueCount", fn := fun _ => fun
  | [d] => { results := [.lit (.bool false)], args := [d] }
  | _ => none }
def DueCountWrongFalsely : Prop := dueCountRow.holds Try.pinned (OpenSpec.ofChange dueCountWrong)

/- THE SECOND FORM. 'bulk': how many values and letters a reading holds, each counted each time it is reached (what is shared counts as often as it is met; a slice's spare places count too). A statement '..UptoSaid' is the law's where the arguments, and the package variables that the reading takes, are together of bulk at most 1048576: NARROWER than '..Said'. Prove '..Said' where nothing that the law and all that it calls make is longer than what came in: it says more and counts as full. Else prove '..UptoSaid'. A law counts once. -/
mutual
def uptoBulk {H : Type} : DataW H → Nat
  | .lit (.string bytes) => bytes.length + 1
  | .lit _ => 1
  | .nil => 1
  | .ptr d => uptoBulk d + 1
  | .slice elems spare => uptoBulkAll elems + uptoBulkAll spare + 1
  | .agg parts => uptoBulkAll parts + 1
  | .iface _ d => uptoBulk d + 1
  | .map entries => uptoBulkEntries entries + 1
  | .held _ => 1
def uptoBulkAll {H : Type} : List (DataW H) → Nat
  | [] => 0
  | d :: r => uptoBulk d + uptoBulkAll r
def uptoBulkEntries {H : Type} : List (Lit × DataW H) → Nat
  | [] => 0
  | x :: r => uptoBulkEntry x + uptoBulkEntries r
def uptoBulkEntry {H : Type} : Lit × DataW H → Nat
  | (.string bytes, d) => bytes.length + uptoBulk d + 1
  | (_, d) => uptoBulk d + 1
 end
def uptoSmall : (H : Type) → List (DataW H) → Bool := fun _ ds => decide (uptoBulkAll ds ≤ 1048576)
def OpenSpec.upto (s : _root_.Go.ChangeSpec) : _root_.Go.OpenSpec := { _root_.Go.OpenSpec.ofChange s with cond := some uptoSmall }

/-- 'hawalalaw13.DueAll', WHERE WHAT IT READS IS OF BULK AT MOST 1048576: true; the input reads as it did. -/
def dueAllUptoRow : OpenClaim := { program := "ytdepidemciigkaa", sum := "b18dbded3219fdebc64ed36aeebdab5678de8ce17c6fdb9caa8b615bf7099ec5", func := "hawala/hawalalaw13.DueAll", spec := "dueAll", unfollowed := true, recurses := true, apart := false, narrowed := true }
def DueAllUptoSaid : Prop := dueAllUptoRow.holds Try.pinned (OpenSpec.upto dueAllSpec)

/-- 'hawalalaw13.DueBy', WHERE WHAT IT READS IS OF BULK AT MOST 1048576: true; the input reads as it did. -/
def dueByUptoRow : OpenClaim := { program := "ytdepidemciigkaa", sum := "b18dbded3219fdebc64ed36aeebdab5678de8ce17c6fdb9caa8b615bf7099ec5", func := "hawala/hawalalaw13.DueBy", spec := "dueBy", unfollowed := true, recurses := true, apart := false, narrowed := true }
def DueByUptoSaid : Prop := dueByUptoRow.holds Try.pinned (OpenSpec.upto dueBySpec)

/-- 'hawalalaw13.DueNext', WHERE WHAT IT READS IS OF BULK AT MOST 1048576: true; the input reads as it did. -/
def dueNextUptoRow : OpenClaim := { program := "ytdepidemciigkaa", sum := "b18dbded3219fdebc64ed36aeebdab5678de8ce17c6fdb9caa8b615bf7099ec5", func := "hawala/hawalalaw13.DueNext", spec := "dueNext", unfollowed := true, recurses := true, apart := false, narrowed := true }
def DueNextUptoSaid : Prop := dueNextUptoRow.holds Try.pinned (OpenSpec.upto dueNextSpec)

/-- 'hawalalaw13.DueMore', WHERE WHAT IT READS IS OF BULK AT MOST 1048576: true; the input reads as it did. -/
def dueMoreUptoRow : OpenClaim := { program := "ytdepidemciigkaa", sum := "b18dbded3219fdebc64ed36aeebdab5678de8ce17c6fdb9caa8b615bf7099ec5", func := "hawala/hawalalaw13.DueMore", spec := "dueMore", unfollowed := true, recurses := true, apart := false, narrowed := true }
def DueMoreUptoSaid : Prop := dueMoreUptoRow.holds Try.pinned (OpenSpec.upto dueMoreSpec)

/-- 'hawalalaw13.DueTime', WHERE WHAT IT READS IS OF BULK AT MOST 1048576: true; the input reads as it did. -/
def dueTimeUptoRow : OpenClaim := { program := "ytdepidemciigkaa", sum := "b18dbded3219fdebc64ed36aeebdab5678de8ce17c6fdb9caa8b615bf7099ec5", func := "hawala/hawalalaw13.DueTime", spec := "dueTime", unfollowed := true, recurses := true, apart := false, narrowed := true }
def DueTimeUptoSaid : Prop := dueTimeUptoRow.holds Try.pinned (OpenSpec.upto dueTimeSpec)

/-- 'hawalalaw13.DueCount', WHERE WHAT IT READS IS OF BULK AT MOST 1048576: true; the input reads as it did. -/
def dueCountUptoRow : OpenClaim := { program := "ytdepidemciigkaa", sum := "b18dbded3219fdebc64ed36aeebdab5678de8ce17c6fdb9caa8b615bf7099ec5", func := "hawala/hawalalaw13.DueCount", spec := "dueCount", unfollowed := true, recurses := true, apart := false, narrowed := true }
def DueCountUptoSaid : Prop := dueCountUptoRow.holds Try.pinned (OpenSpec.upto dueCountSpec)

end Rows
end Go.Proofs.Ytdepidemciigkaa
