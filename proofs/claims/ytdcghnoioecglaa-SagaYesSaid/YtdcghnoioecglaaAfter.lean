/-
  A region that draws its order, whose operations read, and whose callees make memory but turn nothing that was there: one walk in the order of the text. Of any program.
-/
import Derived.BigQuiet
import Derived.Below
namespace Go.Proofs.Ytdcghnoioecglaa
open Go Go.RowKit

/-- The worlds that lie behind w0: nothing that w0 has is turned in them. -/
def After (w0 : World) : Type := { W : World // Below w0.heap.size w0 W }
instance (w0 : World) : Nonempty (After w0) := ⟨⟨w0, Below.refl _ _⟩⟩
def After.world {w0 : World} (p : After w0) : World := p.1
theorem After.below {w0 : World} (p : After w0) : Below w0.heap.size w0 p.world := p.2

theorem wp_region_after {P : Program} {id : Nat} {Q : Exit → Act → World → Prop} {a : Act} {w : World} {l : List Oper} (hm : P.follows .mixedOrders = true) (hB : Region.lexB .any l.toArray = true)
    (h : wpQuiet P l.toArray (fun w' => ∃ p : After w, w' = p.world) (fun a' => ∀ w', (∃ p : After w, w' = p.world) → Q .normal a' w') l a) : (Code.region id l.toArray true).wp P Q a w :=
  wp_region_quiet (C := fun w' => ∃ p : After w, w' = p.world) hm hB ⟨⟨w.drew, (Below.refl _ _).drew⟩, rfl⟩ (by simpa using h)

/-- A callee's contract, met behind w0. -/
theorem after_call {P : Program} {f : FuncId} {args : Array Value} {w0 : World} (p : After w0) {v : Value}
    (h : Calls P f args p.world fun e w' => e = .returned v ∧ Below p.world.heap.size p.world w') : Calls P f args p.world fun e w'' => e = .returned v ∧ ∃ q : After w0, w'' = q.world :=
  h.mono fun _ w' ⟨he, hb⟩ => ⟨he, ⟨w', p.below.trans (hb.mono p.below.size)⟩, rfl⟩
end Go.Proofs.Ytdcghnoioecglaa
