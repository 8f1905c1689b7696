/-
  What a bank does leaves right states right: plain words, no program.
-/
import Derived.Test.YteifgmdaggiaaaaGreatDoorWBankPlain
namespace Go.Proofs.YteifgmdaggiaaaaGreatDoor
open Go Go.RowKit
set_option linter.unusedVariables false
theorem rsv_ok {s : St} {r : Rq} (h : rsvE s r = 0) : (isC s.acs.length r.a ∧ isC s.acs.length r.b) ∧ moveE s.acs r.a r.b r.amt = 0 ∧ holdE s.acs r.a r.amt = 0 ∧ (rsvS s r).acs = holdL s.acs r.a r.amt ∧ (rsvS s r).pys = s.pys ∧ (rsvS s r).now = s.now := by
 have hs : rsvS s r = ⟨holdL s.acs r.a r.amt, s.pys, s.now⟩ := by unfold rsvS; rw [if_pos h]
 unfold rsvE at h
 split at h
 · rename_i hc
   split at h
   · rename_i hm
     exact ⟨hc, hm, h, by rw [hs], by rw [hs], by rw [hs]⟩
   · rename_i hm; exact absurd h hm
 · omega
end Go.Proofs.YteifgmdaggiaaaaGreatDoor
