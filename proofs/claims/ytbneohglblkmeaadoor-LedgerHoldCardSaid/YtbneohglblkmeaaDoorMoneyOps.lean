/-
  Add and Convert of package money by their contracts.
-/
import Derived.Test.YtbneohglblkmeaaDoorProg
import Derived.WalkKit
import Derived.Below
import Derived.Deep.QuietTactic
import Derived.BigQuiet
import Derived.WalkSmall
namespace Go.Proofs.YtbneohglblkmeaaDoor
open Go Go.RowKit

theorem add_ok (a b : Int) (w : World) (h1 : -1125899906842624 ≤ a) (h2 : a ≤ 1125899906842624) (h3 : -1125899906842624 ≤ b) (h4 : b ≤ 1125899906842624) (h5 : -1125899906842624 ≤ a + b) (h6 : a + b ≤ 1125899906842624) :
    Calls Tryd.prog 24 #[.int .i64 a, .int .i64 b] w fun e w' => e = .returned (.tuple #[.int .i64 (a + b), .nilIface]) ∧ w' = w := by
  go_enter Tryd.func24, Tryd.ntmps24
  go_wp2
  go_ret2
  exact ⟨rfl, rfl⟩

/-- An error that is an api.Errno. -/
abbrev eno (n : Int) : Value := .iface 39 (.int .i64 n)

theorem add_no (a b : Int) (w : World) (h : ¬ (-1125899906842624 ≤ a ∧ a ≤ 1125899906842624 ∧ -1125899906842624 ≤ b ∧ b ≤ 1125899906842624 ∧ -1125899906842624 ≤ a + b ∧ a + b ≤ 1125899906842624)) :
    Calls Tryd.prog 24 #[.int .i64 a, .int .i64 b] w fun e w' => e = .returned (.tuple #[.int .i64 0, eno 4]) ∧ w' = w := by
  by_cases h1 : -1125899906842624 ≤ a
  · by_cases h2 : a ≤ 1125899906842624
    · by_cases h3 : -1125899906842624 ≤ b
      · by_cases h4 : b ≤ 1125899906842624
        · by_cases h5 : -1125899906842624 ≤ a + b
          · have h6 : ¬ a + b ≤ 1125899906842624 := fun h6 => h ⟨h1, h2, h3, h4, h5, h6⟩
            clear h
            go_enter Tryd.func24, Tryd.ntmps24
            go_wp2
            go_ret2
            exact ⟨rfl, rfl⟩
          · clear h
            go_enter Tryd.func24, Tryd.ntmps24
            go_wp2
            go_ret2
            exact ⟨rfl, rfl⟩
        · clear h
          go_enter Tryd.func24, Tryd.ntmps24
          go_wp2
          go_ret2
          exact ⟨rfl, rfl⟩
      · clear h
        go_enter Tryd.func24, Tryd.ntmps24
        go_wp2
        go_ret2
        exact ⟨rfl, rfl⟩
    · clear h
      go_enter Tryd.func24, Tryd.ntmps24
      go_wp2
      go_ret2
      exact ⟨rfl, rfl⟩
  · clear h
    go_enter Tryd.func24, Tryd.ntmps24
    go_wp2
    go_ret2
    exact ⟨rfl, rfl⟩

theorem conv_ok (n p q : Int) (w : World) (h1 : 1 ≤ n) (h2 : n ≤ 1099511627776) (h3 : 1 ≤ p) (h4 : p ≤ 1024) (h5 : 1 ≤ q) (h6 : q ≤ 1024) (h7 : 0 ≤ n * p) (h8 : n * p ≤ 1125899906842624) (h9 : n * p / q ≤ 1099511627776) :
    Calls Tryd.prog 45 #[.int .i64 n, .agg #[.int .i64 p, .int .i64 q]] w fun e w' => e = .returned (.tuple #[.int .i64 (n * p / q), .int .i64 (n * p % q), .nilIface]) ∧ Below w.heap.size w w' := by
  go_enter Tryd.func45, Tryd.ntmps45
  go_wp2
  go_quiet (fail)
  go_wp2
  go_ret3
  exact ⟨rfl, below_drewN ((Below.refl _ _).alloc (Nat.le_refl _) _) _⟩

/-- Where the arguments of Convert are wrong: which test says so first. -/
theorem conv_ways (n p q : Int) : (1 ≤ n ∧ n ≤ 1099511627776 ∧ 1 ≤ p ∧ p ≤ 1024 ∧ 1 ≤ q ∧ q ≤ 1024) ∨ (¬ 1 ≤ n) ∨ (1 ≤ n ∧ ¬ n ≤ 1099511627776) ∨ (1 ≤ n ∧ n ≤ 1099511627776 ∧ ¬ 1 ≤ p) ∨ (1 ≤ n ∧ n ≤ 1099511627776 ∧ 1 ≤ p ∧ ¬ p ≤ 1024) ∨ (1 ≤ n ∧ n ≤ 1099511627776 ∧ 1 ≤ p ∧ p ≤ 1024 ∧ ¬ 1 ≤ q) ∨ (1 ≤ n ∧ n ≤ 1099511627776 ∧ 1 ≤ p ∧ p ≤ 1024 ∧ 1 ≤ q ∧ ¬ q ≤ 1024) := by omega

set_option maxHeartbeats 1000000 in
theorem conv_bad (n p q : Int) (w : World) (h : ¬ (1 ≤ n ∧ n ≤ 1099511627776 ∧ 1 ≤ p ∧ p ≤ 1024 ∧ 1 ≤ q ∧ q ≤ 1024)) :
    Calls Tryd.prog 45 #[.int .i64 n, .agg #[.int .i64 p, .int .i64 q]] w fun e w' => e = .returned (.tuple #[.int .i64 0, .int .i64 0, eno 13]) ∧ Below w.heap.size w w' := by
  rcases conv_ways n p q with h' | h1 | ⟨h1, h2⟩ | ⟨h1, h2, h3⟩ | ⟨h1, h2, h3, h4⟩ | ⟨h1, h2, h3, h4, h5⟩ | ⟨h1, h2, h3, h4, h5, h6⟩
  · exact absurd h' h
  all_goals
    clear h
    go_enter Tryd.func45, Tryd.ntmps45
    go_wp2
    go_ret3
    exact ⟨rfl, (Below.refl _ _).alloc (Nat.le_refl _) _⟩

theorem conv_over (n p q : Int) (w : World) (h1 : 1 ≤ n) (h2 : n ≤ 1099511627776) (h3 : 1 ≤ p) (h4 : p ≤ 1024) (h5 : 1 ≤ q) (h6 : q ≤ 1024) (h7 : 0 ≤ n * p) (h8 : n * p ≤ 1125899906842624) (h9 : 1099511627776 < n * p / q) :
    Calls Tryd.prog 45 #[.int .i64 n, .agg #[.int .i64 p, .int .i64 q]] w fun e w' => e = .returned (.tuple #[.int .i64 0, .int .i64 0, eno 4]) ∧ Below w.heap.size w w' := by
  go_enter Tryd.func45, Tryd.ntmps45
  go_wp2
  go_ret3
  exact ⟨rfl, (Below.refl _ _).alloc (Nat.le_refl _) _⟩

theorem mul_bounds (n p : Int) (h1 : 1 ≤ n) (h2 : n ≤ 1099511627776) (h3 : 1 ≤ p) (h4 : p ≤ 1024) : 0 ≤ n * p ∧ n * p ≤ 1125899906842624 := by
  constructor
  · exact Int.mul_nonneg (by omega) (by omega)
  · have h := Int.mul_le_mul h2 h4 (show (0 : Int) ≤ p by omega) (show (0 : Int) ≤ 1099511627776 by omega)
    omega

theorem div_facts (m q : Int) (h0 : 0 ≤ m) (h5 : 1 ≤ q) : 0 ≤ m % q ∧ m % q < q ∧ m / q * q + m % q = m ∧ 0 ≤ m / q * q ∧ m / q * q ≤ m ∧ 0 ≤ m / q := by
  have a := Int.emod_nonneg m (show q ≠ 0 by omega)
  have b := Int.emod_lt_of_pos m (show 0 < q by omega)
  have c := Int.ediv_mul_add_emod m q
  have d : 0 ≤ m / q := Int.ediv_nonneg h0 (by omega)
  have e : 0 ≤ m / q * q := Int.mul_nonneg d (by omega)
  omega
end Go.Proofs.YtbneohglblkmeaaDoor
