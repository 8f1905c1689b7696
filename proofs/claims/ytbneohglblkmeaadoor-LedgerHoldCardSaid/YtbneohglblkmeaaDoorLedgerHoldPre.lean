/-
  The statement LedgerHold: small words of its walk.
-/
import Derived.Test.YtbneohglblkmeaaDoorLedAwake
import Derived.Test.YtbneohglblkmeaaDoorLedHold
import Derived.Test.YtbneohglblkmeaaDoorBookAny
import Derived.RegionTactic
import Derived.BigRegion
namespace Go.Proofs.YtbneohglblkmeaaDoor
open Go Go.RowKit
set_option linter.unusedVariables false

theorem i8_in {b : Int} (h : (Lit.int .i8 b).wf = true) : -128 ≤ b ∧ b ≤ 127 := by
  simp only [Lit.wf, Bool.and_eq_true, decide_eq_true_eq] at h
  have e1 : IntKind.i8.min = -128 := rfl
  have e2 : IntKind.i8.max = 127 := rfl
  omega
theorem hold_not {zs : List Ac} {k x M : Int} (h : mayE zs.length k x = M) (h0 : M ≠ 0) : holdE zs k x = M ∧ holdL zs k x = [] ∧ relE zs k x = M ∧ relL zs k x = [] := by
  have e1 : holdE zs k x = M := by unfold holdE; rw [h, if_neg h0]
  have e2 : relE zs k x = M := by unfold relE; rw [h, if_neg h0]
  refine ⟨e1, ?_, e2, ?_⟩
  · unfold holdL; rw [e1, if_neg h0]
  · unfold relL; rw [e2, if_neg h0]
theorem hold_may {zs : List Ac} {q : Nat} {x : Int} {a : Ac} (h : mayE zs.length (q : Int) x = 0) (ha : zs[q]? = some a) :
    (wrap64 (a.bal - a.held) < x → holdE zs (q : Int) x = 3 ∧ holdL zs (q : Int) x = []) ∧ (¬ wrap64 (a.bal - a.held) < x → holdE zs (q : Int) x = 0 ∧ holdL zs (q : Int) x = zs.set q ⟨a.cur, a.bal, wrap64 (a.held + x)⟩) ∧
    (a.held < x → relE zs (q : Int) x = 6 ∧ relL zs (q : Int) x = []) ∧ (¬ a.held < x → relE zs (q : Int) x = 0 ∧ relL zs (q : Int) x = zs.set q ⟨a.cur, a.bal, wrap64 (a.held - x)⟩) := by
  refine ⟨fun hx => ?_, fun hx => ?_, fun hx => ?_, fun hx => ?_⟩
  · have e : holdE zs (q : Int) x = 3 := by unfold holdE; rw [if_pos h, acOf_at ha, if_pos hx]
    exact ⟨e, by unfold holdL; rw [e, if_neg (by omega)]⟩
  · have e : holdE zs (q : Int) x = 0 := by unfold holdE; rw [if_pos h, acOf_at ha, if_neg hx]
    exact ⟨e, by unfold holdL heldAs; rw [e, if_pos rfl, acOf_at ha, Int.toNat_natCast]⟩
  · have e : relE zs (q : Int) x = 6 := by unfold relE; rw [if_pos h, acOf_at ha, if_pos hx]
    exact ⟨e, by unfold relL; rw [e, if_neg (by omega)]⟩
  · have e : relE zs (q : Int) x = 0 := by unfold relE; rw [if_pos h, acOf_at ha, if_neg hx]
    exact ⟨e, by unfold relL heldAs; rw [e, if_pos rfl, acOf_at ha, Int.toNat_natCast]⟩

end Go.Proofs.YtbneohglblkmeaaDoor
