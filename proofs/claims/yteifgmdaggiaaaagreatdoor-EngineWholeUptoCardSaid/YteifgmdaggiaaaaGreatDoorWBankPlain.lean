/-
  What a bank does of a request: plain words, no program.
-/
import Derived.Test.YteifgmdaggiaaaaGreatDoorWGrE
import Derived.Test.YteifgmdaggiaaaaGreatDoorWGrB
namespace Go.Proofs.YteifgmdaggiaaaaGreatDoor
open Go Go.RowKit
set_option linter.unusedVariables false
/-- Reserve: the error's number, and the state. -/
def rsvE (s : St) (r : Rq) : Int :=
 if isC s.acs.length r.a ∧ isC s.acs.length r.b then (if moveE s.acs r.a r.b r.amt = 0 then holdE s.acs r.a r.amt else moveE s.acs r.a r.b r.amt) else 2
def rsvS (s : St) (r : Rq) : St := if rsvE s r = 0 then ⟨holdL s.acs r.a r.amt, s.pys, s.now⟩ else s
/-- Settle. -/
def setE (s : St) (r : Rq) : Int := if moveE s.acs r.a r.b r.amt = 0 then spendE s.acs r.amt (moveL s.acs r.a r.b r.amt) else moveE s.acs r.a r.b r.amt
def setS (s : St) (r : Rq) : St := if setE s r = 0 then ⟨spendL s.acs r.amt (moveL s.acs r.a r.b r.amt), s.pys, s.now⟩ else s
/-- Undo. -/
def undE (s : St) (r : Rq) : Int := relE s.acs r.a r.amt
def undS (s : St) (r : Rq) : St := if undE s r = 0 then ⟨relL s.acs r.a r.amt, s.pys, s.now⟩ else s
/-- The next answer, where so many are used: true behind the last one. -/
def ansB (ls : List Bool) (u : Nat) : Bool := if u = ls.length then true else ls.getD u true
def ansN (ls : List Bool) (u : Nat) : Nat := if u = ls.length then u else u + 1
theorem ansN_le {ls : List Bool} {u : Nat} (h : u ≤ ls.length) : ansN ls u ≤ ls.length := by unfold ansN; split <;> omega
/-- A saga goes on by answers, until it is ready, or goes back: the reason's number, and how many answers are used. -/
def finGo (ls : List Bool) : Nat → Sg → Nat → Int × Nat
 | 0, _, u => (0, u)
 | f + 1, s, u => if readyS s then (0, u) else if (legS s (ansB ls u)).ph = 1 then ((legS s (ansB ls u)).why, ansN ls u) else finGo ls f (legS s (ansB ls u)) (ansN ls u)
theorem finGo_le (ls : List Bool) : ∀ (f : Nat) (s : Sg) (u : Nat), u ≤ ls.length → (finGo ls f s u).2 ≤ ls.length
 | 0, s, u, h => h
 | f + 1, s, u, h => by
   rw [finGo]
   split
   · exact h
   · split
     · exact ansN_le h
     · exact finGo_le ls f _ _ (ansN_le h)
def fin (ls : List Bool) (r : Rq) : Int × Nat := finGo ls 20 (beginS r) 0
/-- A transfer that others must agree to: the error's number, the state, and how many answers are used. -/
structure Tx where
 T : St
 E : Int
 n : Nat
def trf (s : St) (r : Rq) (ls : List Bool) : Tx :=
 if rsvE s r = 0 then
  (if (fin ls r).1 = 0 then
    (if setE (rsvS s r) r = 0 then ⟨setS (rsvS s r) r, 0, (fin ls r).2⟩ else ⟨undS (rsvS s r) r, setE (rsvS s r) r, (fin ls r).2⟩)
   else ⟨undS (rsvS s r) r, (fin ls r).1, (fin ls r).2⟩)
 else ⟨s, rsvE s r, 0⟩
def isLong (r : Rq) : Prop := r.op = 2 ∧ 0 < r.legs
instance (r : Rq) : Decidable (isLong r) := inferInstanceAs (Decidable (_ ∧ _))
/-- What comes of a request: the state, what is known, what is told, and how many answers are used. -/
structure Bo where
 T : St
 kl : List Kn
 E : Int
 I : Int
 n : Nat
def exeT (s : St) (r : Rq) (ls : List Bool) : St := if isLong r then (trf s r ls).T else opS s r
def exeE (s : St) (r : Rq) (ls : List Bool) : Int := if isLong r then (trf s r ls).E else opE s r
def exeI (s : St) (r : Rq) (ls : List Bool) : Int := if isLong r then 0 else opI s r
def exeN (s : St) (r : Rq) (ls : List Bool) : Nat := if isLong r then (trf s r ls).n else 0
def bkO (s : St) (kl : List Kn) (r : Rq) (ls : List Bool) : Bo :=
 if r.may then
  (if (askR kl r).2.2 = true then ⟨s, kl, (askR kl r).1, (askR kl r).2.1, 0⟩
   else if kputE kl r = 0 then ⟨exeT s r ls, kl ++ [⟨r, exeE s r ls, exeI s r ls, true⟩], exeE s r ls, exeI s r ls, exeN s r ls⟩
   else ⟨s, kl, kputE kl r, 0, 0⟩)
 else ⟨s, kl, 1, 0, 0⟩
theorem trf_le {s : St} {r : Rq} {ls : List Bool} : (trf s r ls).n ≤ ls.length := by
 have h := finGo_le ls 20 (beginS r) 0 (Nat.zero_le _)
 unfold trf
 split
 · split
   · split <;> exact h
   · exact h
 · exact Nat.zero_le _
theorem exeN_le (s : St) (r : Rq) (ls : List Bool) : exeN s r ls ≤ ls.length := by
 unfold exeN
 split
 · exact trf_le
 · exact Nat.zero_le _
theorem bkO_le (s : St) (kl : List Kn) (r : Rq) (ls : List Bool) : (bkO s kl r ls).n ≤ ls.length := by
 unfold bkO
 split
 · split
   · exact Nat.zero_le _
   · split
     · exact exeN_le _ _ _
     · exact Nat.zero_le _
 · exact Nat.zero_le _
/-- What is put, and told, lies behind all others. -/
theorem put_told {kl : List Kn} {r : Rq} (h : kputE kl r = 0) (e i : Int) : putL kl r = kl ++ [⟨r, 0, 0, false⟩] ∧ tellE (putL kl r) r.key = 0 ∧ tellL (putL kl r) r.key e i = kl ++ [⟨r, e, i, true⟩] := by
 have hf : findN kl r.key = none := by
  unfold kputE at h
  split at h
  · assumption
  · omega
 have hp : putL kl r = kl ++ [⟨r, 0, 0, false⟩] := by unfold putL; rw [if_pos h]
 have hs : findN (kl ++ [⟨r, 0, 0, false⟩]) r.key = some kl.length := by rw [find_snoc, hf]; simp
 have ha : (kl ++ [(⟨r, 0, 0, false⟩ : Kn)])[kl.length]? = some ⟨r, 0, 0, false⟩ := by simp
 rw [hp]
 refine ⟨rfl, ?_, ?_⟩
 · unfold tellE
   rw [hs]
   dsimp only
   rw [knAt_of ha]
   rfl
 · unfold tellL
   rw [hs]
   dsimp only
   rw [knAt_of ha]
   simp
/-! What stays right. -/
theorem rsv_right {s : St} {r : Rq} (h : rightB s.acs = true) : rightB (rsvS s r).acs = true := by
 unfold rsvS
 split
 · rename_i he
   unfold rsvE at he
   split at he
   · split at he
     · exact hold_right h he
     · rename_i hm; exact absurd he hm
   · omega
 · exact h
end Go.Proofs.YteifgmdaggiaaaaGreatDoor
