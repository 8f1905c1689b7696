/-
  No deed tells that something goes on: plain words.
-/
import Derived.Test.YteifgmdaggiaaaaGreatDoorWGrL
namespace Go.Proofs.YteifgmdaggiaaaaGreatDoor
open Go Go.RowKit
set_option linter.unusedVariables false
theorem conv_ten (a b n : Int) : convE a b n ≠ 10 := by unfold convE; (repeat' split) <;> decide
theorem move_ten (zs : List Ac) (f t n : Int) : moveE zs f t n ≠ 10 := by
 unfold moveE
 split
 · decide
 · split
   · decide
   · split
     · decide
     · exact conv_ten _ _ _
theorem post_ten (zs : List Ac) (es : List En) : postE zs es ≠ 10 := by
 unfold postE
 split
 · unfold postE1
   split
   · decide
   · split <;> decide
 · decide
theorem may_ten (n : Nat) (k x : Int) : mayE n k x ≠ 10 := by unfold mayE; (repeat' split) <;> decide
theorem rel_ten (zs : List Ac) (k x : Int) : relE zs k x ≠ 10 := by
 unfold relE
 split
 · split <;> decide
 · exact may_ten _ _ _
theorem hold_ten (zs : List Ac) (k x : Int) : holdE zs k x ≠ 10 := by
 unfold holdE
 split
 · split <;> decide
 · exact may_ten _ _ _
theorem spend_ten (zs : List Ac) (x : Int) (es : List En) : spendE zs x es ≠ 10 := by
 unfold spendE
 split
 · decide
 · split
   · exact post_ten _ _
   · exact rel_ten _ _ _
theorem go_ten (zs : List Ac) (f t n : Int) : goE zs f t n ≠ 10 := by
 unfold goE
 split
 · exact post_ten _ _
 · exact move_ten _ _ _ _
theorem exc_ten (n m : Int) : excE n m ≠ 10 := by unfold excE; (repeat' split) <;> decide
theorem pay_ten (p : Py) (op n : Int) : payE p op n ≠ 10 := by
 unfold payE
 split
 · exact exc_ten _ _
 · split
   · split <;> decide
   · split
     · exact exc_ten _ _
     · split
       · exact exc_ten _ _
       · decide
theorem acc_ten (zs : List Ac) (p : Py) (op n : Int) : accE zs p op n ≠ 10 := by
 unfold accE
 split
 · exact rel_ten _ _ _
 · split
   · split
     · exact spend_ten _ _ _
     · split <;> exact post_ten _ _
   · exact move_ten _ _ _ _
theorem op_ten (s : St) (r : Rq) : opE s r ≠ 10 := by
 unfold opE
 split
 · split <;> decide
 · split
   · split
     · exact go_ten _ _ _ _
     · decide
   · split
     · split
       · exact go_ten _ _ _ _
       · decide
     · split
       · unfold authE
         split
         · split
           · decide
           · split
             · decide
             · exact hold_ten _ _ _
         · decide
       · split
         · unfold payOpE
           split
           · split
             · exact acc_ten _ _ _ _
             · exact pay_ten _ _ _
           · decide
         · decide
theorem rsv_ten (s : St) (r : Rq) : rsvE s r ≠ 10 := by
 unfold rsvE
 split
 · split
   · exact hold_ten _ _ _
   · exact move_ten _ _ _ _
 · decide
theorem set_ten (s : St) (r : Rq) : setE s r ≠ 10 := by
 unfold setE
 split
 · exact spend_ten _ _ _
 · exact move_ten _ _ _ _
/-- A leg's answer: it goes on, with fewer steps; or it turns back. -/
theorem leg_goes {g : Sg} (h : rightSg g) (h0 : g.ph = 0) (hr : ¬ readyS g) (ok : Bool) : ((legS g ok).ph = 1 ∧ (legS g ok).why = 9) ∨ ((legS g ok).ph = 0 ∧ 4 * ((legS g ok).rq.legs - (legS g ok).leg) - (legS g ok).tries < 4 * (g.rq.legs - g.leg) - g.tries) := by
 obtain ⟨h1, h2, h3, h4⟩ := h
 unfold readyS at hr
 have hlt : g.leg < g.rq.legs := by omega
 unfold rightPhS mtS missS at h4
 rw [if_pos h0, if_pos hlt, if_neg (by omega)] at h4
 unfold legS
 rw [if_pos (show waitS g from ⟨h0, hlt⟩), wr1 (x := g.leg + 1) (by omega) (by omega), wr1 (x := g.tries + 1) (by omega) (by omega)]
 split
 · right; dsimp only; omega
 · split
   · left; exact ⟨rfl, rfl⟩
   · right; dsimp only; omega
theorem finGo_ten (ls : List Bool) : ∀ (f : Nat) (g : Sg) (u : Nat), rightSg g → g.ph = 0 → (finGo ls f g u).1 = 0 ∨ (finGo ls f g u).1 = 9
 | 0, g, u, _, _ => .inl rfl
 | f + 1, g, u, h, h0 => by
   rw [finGo]
   split
   · exact .inl rfl
   · rename_i hr
     rcases leg_goes h h0 hr (ansB ls u) with ⟨h5, h6⟩ | ⟨h5, _⟩
     · rw [if_pos h5, h6]; exact .inr rfl
     · rw [if_neg (by omega)]
       exact finGo_ten ls f _ _ (rightSg_leg h (by omega) hr _) h5
theorem exe_ten {s : St} {r : Rq} (hm : r.may) (ls : List Bool) : exeE s r ls ≠ 10 := by
 unfold exeE
 split
 · rename_i hl
   have hf : (fin ls r).1 = 0 ∨ (fin ls r).1 = 9 := finGo_ten ls 20 (beginS r) 0 (rightSg_begin hm hl) rfl
   unfold trf
   split
   · split
     · split
       · exact (by decide : (0 : Int) ≠ 10)
       · exact set_ten _ _
     · show (fin ls r).1 ≠ 10
       omega
   · exact rsv_ten _ _
 · exact op_ten _ _
end Go.Proofs.YteifgmdaggiaaaaGreatDoor
