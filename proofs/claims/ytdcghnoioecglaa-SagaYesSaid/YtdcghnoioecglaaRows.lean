/-
  No cell of these rows narrows 'for every input' (looked for: loops, veiled, ifaces, maps, wideKeys, modest, calm, conditions, laid).
  DERIVED. THE GIVEN ROWS OF THIS SEAT. 4 by the template 'for every input the law returns true; each argument reads behind the call as it read before'; 0 by the template 'total and deterministic' (their statements: YtdcghnoioecglaaTotals.lean).
  GIVEN WITH THE SEED: the statements are not yours to turn. If you find one false, say at which input.
  Laid BY PROGRAM, IN A SANDBOX (cutbox-rows.mjs): the forced cells as the released guide's own fill.sh prints them over the translation d99843a0e6eda61c… (all of the seat's roots in one cut). By AI agents, Wed Nov 11 2026. No macro, syntax, notation, axiom, sorry.
-/
import Derived.Test.YtdcghnoioecglaaChecked
import GoSem.Claim
import GoSem.ClaimJoined
import GoSem.ClaimMapViews
import Derived.JoinedTies
import Derived.KernelRfl
namespace Go.Proofs.Ytdcghnoioecglaa
/- THE CELL 'sum', in the pinned program and in every row, IS THE sha256 OF THE DUMP (.gsa) THAT YtdcghnoioecglaaProg.lean LOADS. Nothing in Lean hashes anything: it is a label: what it is worth is what the hold of that sum in a sandbox is worth. -/
noncomputable def Try.pinned : Pinned := { name := "ytdcghnoioecglaa", sum := "d99843a0e6eda61c6c313362bbfee98d5e0f7f90628c89ef0b4811b9d9843d9a", checked := Try.checked }
namespace Rows
def none {H : Type} : Left H := { results := [], args := [] }

/-- 'hawalalaw14.SagaLeg': WHATEVER THE INPUT: true; the input reads as it did. -/
def sagaLegSpec : ChangeSpec := { name := "sagaLeg", fn := fun _ => fun
  | [d1, d2, d3] => { results := [.lit (.bool true)], args := [d1, d2, d3] }
  | _ => none }
def sagaLegRow : OpenClaim := { program := "ytdcghnoioecglaa", sum := "d99843a0e6eda61c6c313362bbfee98d5e0f7f90628c89ef0b4811b9d9843d9a", func := "hawala/hawalalaw14.SagaLeg", spec := "sagaLeg", apart := false }
def SagaLegSaid : Prop := sagaLegRow.holds Try.pinned (OpenSpec.ofChange sagaLegSpec)

/-- ITS FALSE NEIGHBOUR: 'it returns false'. Refute it at one input. -/
def sagaLegWrong : ChangeSpec := { name := "sagaLeg", fn := fun _ => fun
  | [d1, d2, d3] => { results := [.lit (.bool false)], args := [d1, d2, d3] }
  | _ => none }
def SagaLegWrongFalsely : Prop := sagaLegRow.holds Try.pinned (OpenSpec.ofChange sagaLegWrong)

/-- 'hawalalaw14.SagaAny': WHATEVER THE INPUT: true; the input reads as it did. -/
def sagaAnySpec : ChangeSpec := { name := "sagaAny", fn := fun _ => fun
  | [d1, d2, d3] => { results := [.lit (.bool true)], args := [d1, d2, d3] }
  | _ => none }
def sagaAnyRow : OpenClaim := { program := "ytdcghnoioecglaa", sum := "d99843a0e6eda61c6c313362bbfee98d5e0f7f90628c89ef0b4811b9d9843d9a", func := "hawala/hawalalaw14.SagaAny", spec := "sagaAny", apart := false }
def SagaAnySaid : Prop := sagaAnyRow.holds Try.pinned (OpenSpec.ofChange sagaAnySpec)

/-- ITS FALSE NEIGHBOUR: 'it returns false'. Refute it at one input. -/
def sagaAnyWrong : ChangeSpec := { name := "sagaAny", fn := fun _ => fun
  | [d1, d2, d3] => { results := [.lit (.bool false)], args := [d1, d2, d3] }
  | _ => none }
def SagaAnyWrongFalsely : Prop := sagaAnyRow.holds Try.pinned (OpenSpec.ofChange sagaAnyWrong)

/-- 'hawalalaw14.SagaMost': WHATEVER THE INPUT: true; the input reads as it did. -/
def sagaMostSpec : ChangeSpec := { name := "sagaMost", fn := fun _ => fun
  | [d1, d2, d3] => { results := [.lit (.bool true)], args := [d1, d2, d3] }
  | _ => none }
def sagaMostRow : OpenClaim := { program := "ytdcghnoioecglaa", sum := "d99843a0e6eda61c6c313362bbfee98d5e0f7f90628c89ef0b4811b9d9843d9a", func := "hawala/hawalalaw14.SagaMost", spec := "sagaMost", apart := false }
def SagaMostSaid : Prop := sagaMostRow.holds Try.pinned (OpenSpec.ofChange sagaMostSpec)

/-- ITS FALSE NEIGHBOUR: 'it returns false'. Refute it at one input. -/
def sagaMostWrong : ChangeSpec := { name := "sagaMost", fn := fun _ => fun
  | [d1, d2, d3] => { results := [.lit (.bool false)], args := [d1, d2, d3] }
  | _ => none }
def SagaMostWrongFalsely : Prop := sagaMostRow.holds Try.pinned (OpenSpec.ofChange sagaMostWrong)

/-- 'hawalalaw14.SagaYes': WHATEVER THE INPUT: true; the input reads as it did. -/
def sagaYesSpec : ChangeSpec := { name := "sagaYes", fn := fun _ => fun
  | [d1, d2] => { results := [.lit (.bool true)], args := [d1, d2] }
  | _ => none }
def sagaYesRow : OpenClaim := { program := "ytdcghnoioecglaa", sum := "d99843a0e6eda61c6c313362bbfee98d5e0f7f90628c89ef0b4811b9d9843d9a", func := "hawala/hawalalaw14.SagaYes", spec := "sagaYes", apart := false }
def SagaYesSaid : Prop := sagaYesRow.holds Try.pinned (OpenSpec.ofChange sagaYesSpec)

/-- ITS FALSE NEIGHBOUR: 'it returns false'. Refute it at one input. -/
def sagaYesWrong : ChangeSpec := { name := "sagaYes", fn := fun _ => fun
  | [d1, d2] => { results := [.lit (.bool false)], args := [d1, d2] }
  | _ => none }
def SagaYesWrongFalsely : Prop := sagaYesRow.holds Try.pinned (OpenSpec.ofChange sagaYesWrong)

/- THE SECOND FORM. 'bulk': how many values and letters a reading holds, each counted each time it is reached (what is shared counts as often as it is met; a slice's spare places count too). A statement '..UptoSaid' is the law's where the arguments, and the package variables that the reading takes, are together of bulk at most 1048576: NARROWER than '..Said'. Prove '..Said' where nothing that the law and all that it calls make is longer than what came in: it says more and counts as full. Else prove '..UptoSaid'. A law counts once. -/
mutual
def uptoBulk {H : Type} : DataW H → Nat
  | .lit (.string bytes) => bytes.length + 1
  | .lit _ => 1
  | .nil => 1
  | .ptr d => uptoBulk d + 1
  | .slice elems spare => uptoBulkAll elems + uptoBulkAll spare + 1
  | .agg parts => uptoBulkAll parts + 1
  | .iface _ d => uptoBulk d + 1
  | .map entries => uptoBulkEntries entries + 1
  | .held _ => 1
def uptoBulkAll {H : Type} : List (DataW H) → Nat
  | [] => 0
  | d :: r => uptoBulk d + uptoBulkAll r
def uptoBulkEntries {H : Type} : List (Lit × DataW H) → Nat
  | [] => 0
  | x :: r => uptoBulkEntry x + uptoBulkEntries r
def uptoBulkEntry {H : Type} : Lit × DataW H → Nat
  | (.string bytes, d) => bytes.length + uptoBulk d + 1
  | (_, d) => uptoBulk d + 1
 end
def uptoSmall : (H : Type) → List (DataW H) → Bool := fun _ ds => decide (uptoBulkAll ds ≤ 1048576)
def OpenSpec.upto (s : _root_.Go.ChangeSpec) : _root_.Go.OpenSpec := { _root_.Go.OpenSpec.ofChange s with cond := some uptoSmall }

/-- 'hawalalaw14.SagaLeg', WHERE WHAT IT READS IS OF BULK AT MOST 1048576: true; the input reads as it did. -/
def sagaLegUptoRow : OpenClaim := { program := "ytdcghnoioecglaa", sum := "d99843a0e6eda61c6c313362bbfee98d5e0f7f90628c89ef0b4811b9d9843d9a", func := "hawala/hawalalaw14.SagaLeg", spec := "sagaLeg", apart := false, narrowed := true }
def SagaLegUptoSaid : Prop := sagaLegUptoRow.holds Try.pinned (OpenSpec.upto sagaLegSpec)

/-- 'hawalalaw14.SagaAny', WHERE WHAT IT READS IS OF BULK AT MOST 1048576: true; the input reads as it did. -/
def sagaAnyUptoRow : OpenClaim := { program := "ytdcghnoioecglaa", sum := "d99843a0e6eda61c6c313362bbfee98d5e0f7f90628c89ef0b4811b9d9843d9a", func := "hawala/hawalalaw14.SagaAny", spec := "sagaAny", apart := false, narrowed := true }
def SagaAnyUptoSaid : Prop := sagaAnyUptoRow.holds Try.pinned (OpenSpec.upto sagaAnySpec)

/-- 'hawalalaw14.SagaMost', WHERE WHAT IT READS IS OF BULK AT MOST 1048576: true; the input reads as it did. -/
def sagaMostUptoRow : OpenClaim := { program := "ytdcghnoioecglaa", sum := "d99843a0e6eda61c6c313362bbfee98d5e0f7f90628c89ef0b4811b9d9843d9a", func := "hawala/hawalalaw14.SagaMost", spec := "sagaMost", apart := false, narrowed := true }
def SagaMostUptoSaid : Prop := sagaMostUptoRow.holds Try.pinned (OpenSpec.upto sagaMostSpec)

/-- 'hawalalaw14.SagaYes', WHERE WHAT IT READS IS OF BULK AT MOST 1048576: true; the input reads as it did. -/
def sagaYesUptoRow : OpenClaim := { program := "ytdcghnoioecglaa", sum := "d99843a0e6eda61c6c313362bbfee98d5e0f7f90628c89ef0b4811b9d9843d9a", func := "hawala/hawalalaw14.SagaYes", spec := "sagaYes", apart := false, narrowed := true }
def SagaYesUptoSaid : Prop := sagaYesUptoRow.holds Try.pinned (OpenSpec.upto sagaYesSpec)

end Rows
end Go.Proofs.Ytdcghnoioecglaa
