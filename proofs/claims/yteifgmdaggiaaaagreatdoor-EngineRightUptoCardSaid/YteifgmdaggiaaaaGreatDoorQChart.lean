/-
  The small functions of chart by their contracts; New.
-/
import Derived.Test.YteifgmdaggiaaaaGreatDoorQGrC
import Derived.WalkKit
import Derived.LoopTactic
import Derived.BigQuiet
import Derived.Deep.QuietTactic
import Derived.IntWalk
import Derived.WalkSpells
namespace Go.Proofs.YteifgmdaggiaaaaGreatDoor
open Go Go.RowKit
set_option linter.unusedVariables false
theorem isBal_any (c : Int) (w : World) : Calls Tryz.prog 45 #[.int .i64 c] w fun e w' => e = .returned (.bool (decide (-1125899906842624 ≤ c ∧ c ≤ 1125899906842624))) ∧ w = w' := by
 by_cases h1 : -1125899906842624 ≤ c
 · by_cases h2 : c ≤ 1125899906842624
   · have e : decide (-1125899906842624 ≤ c ∧ c ≤ 1125899906842624) = true := decide_eq_true ⟨h1, h2⟩
     rw [e]
     clear e
     go_enter Tryz.func45, Tryz.ntmps45
     go_wp2
     go_ret
     exact ⟨rfl, rfl⟩
   · have e : decide (-1125899906842624 ≤ c ∧ c ≤ 1125899906842624) = false := decide_eq_false fun h => h2 h.2
     rw [e]
     clear e
     go_enter Tryz.func45, Tryz.ntmps45
     go_wp2
     go_ret
     exact ⟨rfl, rfl⟩
 · have e : decide (-1125899906842624 ≤ c ∧ c ≤ 1125899906842624) = false := decide_eq_false fun h => h1 h.1
   rw [e]
   clear e
   go_enter Tryz.func45, Tryz.ntmps45
   go_wp2
   go_ret
   exact ⟨rfl, rfl⟩
theorem isHouse_any (a : Ac) (k : Nat) (hk : k ≤ 1000000) (w : World) :
  Calls Tryz.prog 46 #[.agg #[.int .i64 a.cur, .int .i64 a.bal, .int .i64 a.held], .int .i64 (k : Int)] w fun e w' => e = .returned (.bool (decide (a.held = 0 ∧ a.cur = (k : Int) / 3))) ∧ Below w.heap.size w w' := by
 obtain ⟨c, b, l⟩ := a
 obtain ⟨q, hq⟩ : ∃ q : Int, (k : Int) / 3 = q := ⟨_, rfl⟩
 have HC := Lib.hid (fun W => houseCur_any k hk W)
 rw [hq] at HC ⊢
 clear hq
 dsimp only
 by_cases h1 : c = q
 · have e1 := eqT h1
   by_cases h2 : l = 0
   · have e2 := eqT h2
     have e : decide (l = 0 ∧ c = q) = true := decide_eq_true ⟨h2, h1⟩
     rw [e]
     clear e
     subst h1 h2
     go_enter Tryz.func46, Tryz.ntmps46
     go_wp2
     go_quiet (first | (go_at_call 84; exact quiet_same (HC.out _)))
     go_wp2
     go_ret
     exact ⟨rfl, below_drewN ((Below.refl _ _).alloc (Nat.le_refl _) _) _⟩
   · have e2 := eqF h2
     have e : decide (l = 0 ∧ c = q) = false := decide_eq_false fun h => h2 h.1
     rw [e]
     clear e h2
     subst h1
     go_enter Tryz.func46, Tryz.ntmps46
     go_wp2
     go_quiet (first | (go_at_call 84; exact quiet_same (HC.out _)))
     go_wp2
     go_ret
     exact ⟨rfl, below_drewN ((Below.refl _ _).alloc (Nat.le_refl _) _) _⟩
 · have e1 := eqF h1
   have e : decide (l = 0 ∧ c = q) = false := decide_eq_false fun h => h1 h.2
   rw [e]
   clear e h1
   go_enter Tryz.func46, Tryz.ntmps46
   go_wp2
   go_quiet (first | (go_at_call 84; exact quiet_same (HC.out _)))
   go_wp2
   go_ret
   exact ⟨rfl, below_drewN ((Below.refl _ _).alloc (Nat.le_refl _) _) _⟩
theorem isHeld_any (a : Ac) (w : World) :
  Calls Tryz.prog 47 #[.agg #[.int .i64 a.cur, .int .i64 a.bal, .int .i64 a.held]] w fun e w' => e = .returned (.bool (decide (0 ≤ a.held ∧ a.held ≤ a.bal))) ∧ Below w.heap.size w w' := by
 obtain ⟨c, b, l⟩ := a
 dsimp only
 by_cases h1 : 0 ≤ l
 · by_cases h2 : l ≤ b
   · have e : decide (0 ≤ l ∧ l ≤ b) = true := decide_eq_true ⟨h1, h2⟩
     rw [e]
     clear e
     go_enter Tryz.func47, Tryz.ntmps47
     go_wp2
     go_ret
     exact ⟨rfl, (Below.refl _ _).alloc (Nat.le_refl _) _⟩
   · have e : decide (0 ≤ l ∧ l ≤ b) = false := decide_eq_false fun h => h2 h.2
     rw [e]
     clear e
     go_enter Tryz.func47, Tryz.ntmps47
     go_wp2
     go_ret
     exact ⟨rfl, (Below.refl _ _).alloc (Nat.le_refl _) _⟩
 · have e : decide (0 ≤ l ∧ l ≤ b) = false := decide_eq_false fun h => h1 h.1
   rw [e]
   clear e
   go_enter Tryz.func47, Tryz.ntmps47
   go_wp2
   go_ret
   exact ⟨rfl, (Below.refl _ _).alloc (Nat.le_refl _) _⟩
end Go.Proofs.YteifgmdaggiaaaaGreatDoor
