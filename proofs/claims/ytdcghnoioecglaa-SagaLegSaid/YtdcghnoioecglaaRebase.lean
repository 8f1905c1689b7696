/-
  A region that draws its order, walked from a later world on: what is known of all worlds behind it.
-/
import Derived.Deep.RegionHeld3
import Derived.Below
namespace Go.Proofs.Ytdcghnoioecglaa
open Go Go.RowKit
section
variable {P : Program} {md : Region.Mode} {ops : Array Oper} {Q : Exit → Act → World → Prop}
theorem wpAnyH_mono {S S' : World → Prop} (hS : ∀ w, S' w → S w) : ∀ (fuel : Nat) (listed : Array Bool) (a : Act) (w : World), wpAnyH P md ops Q S' fuel listed a w → wpAnyH P md ops Q S fuel listed a w
  | 0, _, _, _, h => h
  | fuel + 1, _, _, _, h => ⟨h.1, fun i hi => wpOp_mono (fun a' w' h' => ⟨hS w' h'.1, wpAnyH_mono hS fuel _ a' w' h'.2⟩) (h.2 i hi)⟩
theorem wpAnyH_rebase {w0 wp : World} (hb : Below w0.heap.size w0 wp) {fuel : Nat} {listed : Array Bool} {a : Act} {w : World}
    (h : wpAnyH P md ops Q (fun w' => Below wp.heap.size wp w') fuel listed a w) : wpAnyH P md ops Q (fun w' => Below w0.heap.size w0 w') fuel listed a w :=
  wpAnyH_mono (fun _ h' => hb.trans (h'.mono hb.size)) fuel listed a w h
/-- What yields in every world that meets S is taken first: its slot by its number. -/
theorem take_at {S : World → Prop} (i d : Nat) {oi : Oper} {v : Value} {fuel : Nat} {listed : Array Bool} {a : Act} {w : World} (hi : ops[i]? = some oi) (hd : oi.dst = some d)
    (hs : Region.noSelect ops = true) (hf : Region.free md ops listed i = true) (hr : (Region.ready md ops listed).contains i = true)
    (hQ : ∀ c a w, Q (.panic c) (a.put (some d) v) w → Q (.panic c) a w) (hy : YieldsIf P ops S oi v a) (hS : S w)
    (h : wpAnyH P md ops Q S fuel (listed.setIfInBounds i true) (a.put (some d) v) w) : wpAnyH P md ops Q S (fuel + 1) listed a w :=
  wpAnyH_take hi hs hf hr (fun c a w h' => hQ c a w (hd ▸ h')) hy hS (hd ▸ h)
end
end Go.Proofs.Ytdcghnoioecglaa
