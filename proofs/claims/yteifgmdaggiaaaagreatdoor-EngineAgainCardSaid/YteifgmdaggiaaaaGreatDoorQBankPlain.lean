/-
  What a bank does of a request: plain words, no program.
-/
import Derived.Test.YteifgmdaggiaaaaGreatDoorQGrE
import Derived.Test.YteifgmdaggiaaaaGreatDoorQGrB
namespace Go.Proofs.YteifgmdaggiaaaaGreatDoor
open Go Go.RowKit
set_option linter.unusedVariables false
/-- Reserve: the error's number, and the state. -/
def rsvE (s : St) (r : Rq) : Int :=
 if isC s.acs.length r.a ∧ isC s.acs.length r.b then (if moveE s.acs r.a r.b r.amt = 0 then holdE s.acs r.a r.amt else moveE s.acs r.a r.b r.amt) else 2
def rsvS (s : St) (r : Rq) : St := if rsvE s r = 0 then ⟨holdL s.acs r.a r.amt, s.pys, s.now⟩ else s
/-- Settle. -/
def setE (s : St) (r : Rq) : Int := if moveE s.acs r.a r.b r.amt = 0 then spendE s.acs r.amt (moveL s.acs r.a r.b r.amt) else moveE s.acs r.a r.b r.amt
def setS (s : St) (r : Rq) : St := if setE s r = 0 then ⟨spendL s.acs r.amt (moveL s.acs r.a r.b r.amt), s.pys, s.now⟩ else s
/-- Undo. -/
def undE (s : St) (r : Rq) : Int := relE s.acs r.a r.amt
def undS (s : St) (r : Rq) : St := if undE s r = 0 then ⟨relL s.acs r.a r.amt, s.pys, s.now⟩ else s
/-- The next answer, where so many are used: true behind the last one. -/
def ansB (ls : List Bool) (u : Nat) : Bool := if u = ls.length then true else ls.getD u true
def ansN (ls : List Bool) (u : Nat) : Nat := if u = ls.length then u else u + 1
/-- A saga goes on by answers, until it is ready, or goes back: the reason's number, and how many answers are used. -/
def finGo (ls : List Bool) : Nat → Sg → Nat → Int × Nat
 | 0, _, u => (0, u)
 | f + 1, s, u => if readyS s then (0, u) else if (legS s (ansB ls u)).ph = 1 then ((legS s (ansB ls u)).why, ansN ls u) else finGo ls f (legS s (ansB ls u)) (ansN ls u)
def fin (ls : List Bool) (r : Rq) : Int × Nat := finGo ls 20 (beginS r) 0
def isLong (r : Rq) : Prop := r.op = 2 ∧ 0 < r.legs
instance (r : Rq) : Decidable (isLong r) := inferInstanceAs (Decidable (_ ∧ _))
/-- What is put, and told, lies behind all others. -/
theorem put_told {kl : List Kn} {r : Rq} (h : kputE kl r = 0) (e i : Int) : putL kl r = kl ++ [⟨r, 0, 0, false⟩] ∧ tellE (putL kl r) r.key = 0 ∧ tellL (putL kl r) r.key e i = kl ++ [⟨r, e, i, true⟩] := by
 have hf : findN kl r.key = none := by
  unfold kputE at h
  split at h
  · assumption
  · omega
 have hp : putL kl r = kl ++ [⟨r, 0, 0, false⟩] := by unfold putL; rw [if_pos h]
 have hs : findN (kl ++ [⟨r, 0, 0, false⟩]) r.key = some kl.length := by rw [find_snoc, hf]; simp
 have ha : (kl ++ [(⟨r, 0, 0, false⟩ : Kn)])[kl.length]? = some ⟨r, 0, 0, false⟩ := by simp
 rw [hp]
 refine ⟨rfl, ?_, ?_⟩
 · unfold tellE
   rw [hs]
   dsimp only
   rw [knAt_of ha]
   rfl
 · unfold tellL
   rw [hs]
   dsimp only
   rw [knAt_of ha]
   simp
/-! What stays right. -/
end Go.Proofs.YteifgmdaggiaaaaGreatDoor
