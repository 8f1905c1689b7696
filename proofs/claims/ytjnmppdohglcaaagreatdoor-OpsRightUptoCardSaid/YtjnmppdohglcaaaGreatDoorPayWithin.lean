/-
  payment.within by its contract.
-/
import Derived.Test.YtjnmppdohglcaaaGreatDoorGrB
import Derived.Test.YtjnmppdohglcaaaGreatDoorGrA
import Derived.WalkKit
import Derived.Lib.Hide
namespace Go.Proofs.YtjnmppdohglcaaaGreatDoor
open Go Go.RowKit
set_option linter.unusedVariables false

theorem pwithin_any (n l g : Int) (w : World) : Calls Tryz.prog 29 #[.int .i64 n, .int .i64 l, .int .i64 g] w fun e w' => e = .returned (.bool (decide (l ≤ n ∧ n ≤ g))) ∧ w = w' := by
  by_cases h1 : l ≤ n
  · by_cases h2 : n ≤ g
    · rw [show decide (l ≤ n ∧ n ≤ g) = true from decide_eq_true ⟨h1, h2⟩]
      go_enter Tryz.func29, Tryz.ntmps29
      go_wp2
      go_ret
      exact ⟨rfl, rfl⟩
    · rw [show decide (l ≤ n ∧ n ≤ g) = false from decide_eq_false fun h => h2 h.2]
      go_enter Tryz.func29, Tryz.ntmps29
      go_wp2
      go_ret
      exact ⟨rfl, rfl⟩
  · rw [show decide (l ≤ n ∧ n ≤ g) = false from decide_eq_false fun h => h1 h.1]
    go_enter Tryz.func29, Tryz.ntmps29
    go_wp2
    go_ret
    exact ⟨rfl, rfl⟩
theorem pwithin_is (b : Bool) (n l g : Int) (w : World) (h : b = decide (l ≤ n ∧ n ≤ g)) : Calls Tryz.prog 29 #[.int .i64 n, .int .i64 l, .int .i64 g] w fun e w' => e = .returned (.bool b) ∧ w = w' := by
  subst h
  exact pwithin_any n l g w
end Go.Proofs.YtjnmppdohglcaaaGreatDoor
