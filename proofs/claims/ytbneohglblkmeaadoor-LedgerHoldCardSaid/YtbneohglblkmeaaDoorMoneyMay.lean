/-
  May and Amount of package money by their contracts.
-/
import Derived.Test.YtbneohglblkmeaaDoorMoneyOps
namespace Go.Proofs.YtbneohglblkmeaaDoor
open Go Go.RowKit

theorem may_any (n : Int) (w : World) : Calls Tryd.prog 37 #[.int .i64 n] w fun e w' => e = .returned (.bool (decide (-1125899906842624 ≤ n ∧ n ≤ 1125899906842624))) ∧ w = w' := by
  by_cases h1 : -1125899906842624 ≤ n
  · by_cases h2 : n ≤ 1125899906842624
    · have e : decide (-1125899906842624 ≤ n ∧ n ≤ 1125899906842624) = true := decide_eq_true ⟨h1, h2⟩
      rw [e]
      clear e
      go_enter Tryd.func37, Tryd.ntmps37
      go_wp2
      go_ret
      exact ⟨rfl, rfl⟩
    · have e : decide (-1125899906842624 ≤ n ∧ n ≤ 1125899906842624) = false := decide_eq_false fun h => h2 h.2
      rw [e]
      clear e
      go_enter Tryd.func37, Tryd.ntmps37
      go_wp2
      go_ret
      exact ⟨rfl, rfl⟩
  · have e : decide (-1125899906842624 ≤ n ∧ n ≤ 1125899906842624) = false := decide_eq_false fun h => h1 h.1
    rw [e]
    clear e
    go_enter Tryd.func37, Tryd.ntmps37
    go_wp2
    go_ret
    exact ⟨rfl, rfl⟩

theorem amount_any (n : Int) (w : World) : Calls Tryd.prog 30 #[.int .i64 n] w fun e w' => e = .returned (.bool (decide (1 ≤ n ∧ n ≤ 1099511627776))) ∧ w = w' := by
  by_cases h1 : 1 ≤ n
  · by_cases h2 : n ≤ 1099511627776
    · have e : decide (1 ≤ n ∧ n ≤ 1099511627776) = true := decide_eq_true ⟨h1, h2⟩
      rw [e]
      clear e
      go_enter Tryd.func30, Tryd.ntmps30
      go_wp2
      go_ret
      exact ⟨rfl, rfl⟩
    · have e : decide (1 ≤ n ∧ n ≤ 1099511627776) = false := decide_eq_false fun h => h2 h.2
      rw [e]
      clear e
      go_enter Tryd.func30, Tryd.ntmps30
      go_wp2
      go_ret
      exact ⟨rfl, rfl⟩
  · have e : decide (1 ≤ n ∧ n ≤ 1099511627776) = false := decide_eq_false fun h => h1 h.1
    rw [e]
    clear e
    go_enter Tryd.func30, Tryd.ntmps30
    go_wp2
    go_ret
    exact ⟨rfl, rfl⟩
end Go.Proofs.YtbneohglblkmeaaDoor
