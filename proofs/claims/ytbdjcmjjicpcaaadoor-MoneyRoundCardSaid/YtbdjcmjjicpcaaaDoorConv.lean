/-
  money.Convert by its contracts where it tells an error; and the statement MoneyConvert by its walk: of every three ints it returns true.
-/
import Derived.Test.YtbdjcmjjicpcaaaDoorMoney
namespace Go.Proofs.YtbdjcmjjicpcaaaDoor
open Go.RowKit

/-- Where the arguments of Convert are wrong: which test says so first. -/
theorem conv_ways (n p q : Int) : (1 ≤ n ∧ n ≤ 1099511627776 ∧ 1 ≤ p ∧ p ≤ 1024 ∧ 1 ≤ q ∧ q ≤ 1024) ∨ (¬ 1 ≤ n) ∨ (1 ≤ n ∧ ¬ n ≤ 1099511627776) ∨ (1 ≤ n ∧ n ≤ 1099511627776 ∧ ¬ 1 ≤ p) ∨ (1 ≤ n ∧ n ≤ 1099511627776 ∧ 1 ≤ p ∧ ¬ p ≤ 1024) ∨ (1 ≤ n ∧ n ≤ 1099511627776 ∧ 1 ≤ p ∧ p ≤ 1024 ∧ ¬ 1 ≤ q) ∨ (1 ≤ n ∧ n ≤ 1099511627776 ∧ 1 ≤ p ∧ p ≤ 1024 ∧ 1 ≤ q ∧ ¬ q ≤ 1024) := by omega

set_option maxHeartbeats 1000000 in
theorem conv_bad (n p q : Int) (w : World) (h : ¬ (1 ≤ n ∧ n ≤ 1099511627776 ∧ 1 ≤ p ∧ p ≤ 1024 ∧ 1 ≤ q ∧ q ≤ 1024)) :
    Calls Tryd.prog 15 #[.int .i64 n, .agg #[.int .i64 p, .int .i64 q]] w fun e w' => e = .returned (.tuple #[.int .i64 0, .int .i64 0, eno 13]) ∧ Below w.heap.size w w' := by
  rcases conv_ways n p q with h' | h1 | ⟨h1, h2⟩ | ⟨h1, h2, h3⟩ | ⟨h1, h2, h3, h4⟩ | ⟨h1, h2, h3, h4, h5⟩ | ⟨h1, h2, h3, h4, h5, h6⟩
  · exact absurd h' h
  all_goals
    clear h
    go_enter Tryd.func15, Tryd.ntmps15
    go_wp2
    go_ret3
    exact ⟨rfl, (Below.refl _ _).alloc (Nat.le_refl _) _⟩

theorem conv_over (n p q : Int) (w : World) (h1 : 1 ≤ n) (h2 : n ≤ 1099511627776) (h3 : 1 ≤ p) (h4 : p ≤ 1024) (h5 : 1 ≤ q) (h6 : q ≤ 1024) (h7 : 0 ≤ n * p) (h8 : n * p ≤ 1125899906842624) (h9 : 1099511627776 < n * p / q) :
    Calls Tryd.prog 15 #[.int .i64 n, .agg #[.int .i64 p, .int .i64 q]] w fun e w' => e = .returned (.tuple #[.int .i64 0, .int .i64 0, eno 4]) ∧ Below w.heap.size w w' := by
  go_enter Tryd.func15, Tryd.ntmps15
  go_wp2
  go_ret3
  exact ⟨rfl, (Below.refl _ _).alloc (Nat.le_refl _) _⟩

theorem mul_bounds (n p : Int) (h1 : 1 ≤ n) (h2 : n ≤ 1099511627776) (h3 : 1 ≤ p) (h4 : p ≤ 1024) : 0 ≤ n * p ∧ n * p ≤ 1125899906842624 := by
  constructor
  · exact Int.mul_nonneg (by omega) (by omega)
  · have h := Int.mul_le_mul h2 h4 (show (0 : Int) ≤ p by omega) (show (0 : Int) ≤ 1099511627776 by omega)
    omega

theorem div_facts (m q : Int) (h0 : 0 ≤ m) (h5 : 1 ≤ q) : 0 ≤ m % q ∧ m % q < q ∧ m / q * q + m % q = m ∧ 0 ≤ m / q * q ∧ m / q * q ≤ m ∧ 0 ≤ m / q := by
  have a := Int.emod_nonneg m (show q ≠ 0 by omega)
  have b := Int.emod_lt_of_pos m (show 0 < q by omega)
  have c := Int.ediv_mul_add_emod m q
  have d : 0 ≤ m / q := Int.ediv_nonneg h0 (by omega)
  have e : 0 ≤ m / q * q := Int.mul_nonneg d (by omega)
  omega

set_option maxHeartbeats 4000000 in
theorem convlaw_bad (n p q : Int) (w : World) (hh : HasErr w) (h : ¬ (1 ≤ n ∧ n ≤ 1099511627776 ∧ 1 ≤ p ∧ p ≤ 1024 ∧ 1 ≤ q ∧ q ≤ 1024)) :
    Calls Tryd.prog 5 #[.int .i64 n, .int .i64 p, .int .i64 q] w fun e w' => e = .returned (.bool true) ∧ Below w.heap.size w w' := by
  go_enter Tryd.func5, Tryd.ntmps5
  go_wp2_with fail
  refine (awake_ok _ hh).mono ?_
  rintro e w1 ⟨rfl, hb⟩
  have hh1 := hh.below hb
  go_wp2_with fail
  refine (conv_bad _ _ _ _ h).mono ?_
  rintro e w2 ⟨rfl, hb1⟩
  have hh2 := hh1.below hb1
  have hb2 := hb.trans (hb1.mono hb.size)
  clear hh1 hb1 hb hh
  rcases conv_ways n p q with h' | h1 | ⟨h1, h2⟩ | ⟨h1, h2, h3⟩ | ⟨h1, h2, h3, h4⟩ | ⟨h1, h2, h3, h4, h5⟩ | ⟨h1, h2, h3, h4, h5, h6⟩
  · exact absurd h' h
  all_goals
    clear h
    go_wp2_with (first | (go_at_call 12; refine (number_err _ _ hh2).mono ?_; rintro e w3 ⟨rfl, hb3⟩) | go_in)
    go_ret
    exact ⟨rfl, hb2.trans (hb3.mono hb2.size)⟩

set_option maxHeartbeats 4000000 in
theorem convlaw_over (n p q : Int) (w : World) (hh : HasErr w) (h1 : 1 ≤ n) (h2 : n ≤ 1099511627776) (h3 : 1 ≤ p) (h4 : p ≤ 1024) (h5 : 1 ≤ q) (h6 : q ≤ 1024) (h7 : 0 ≤ n * p) (h8 : n * p ≤ 1125899906842624) (h9 : 1099511627776 < n * p / q) :
    Calls Tryd.prog 5 #[.int .i64 n, .int .i64 p, .int .i64 q] w fun e w' => e = .returned (.bool true) ∧ Below w.heap.size w w' := by
  go_enter Tryd.func5, Tryd.ntmps5
  go_wp2_with fail
  refine (awake_ok _ hh).mono ?_
  rintro e w1 ⟨rfl, hb⟩
  have hh1 := hh.below hb
  go_wp2_with fail
  refine (conv_over _ _ _ _ h1 h2 h3 h4 h5 h6 h7 h8 h9).mono ?_
  rintro e w2 ⟨rfl, hb1⟩
  have hh2 := hh1.below hb1
  have hb2 := hb.trans (hb1.mono hb.size)
  clear hh1 hb1 hb hh
  go_wp2_with (first | (go_at_call 12; refine (number_err _ _ hh2).mono ?_; rintro e w3 ⟨rfl, hb3⟩) | go_in)
  go_ret
  exact ⟨rfl, hb2.trans (hb3.mono hb2.size)⟩

set_option maxHeartbeats 4000000 in
theorem convlaw_ok (n p q : Int) (w : World) (hh : HasErr w) (h1 : 1 ≤ n) (h2 : n ≤ 1099511627776) (h3 : 1 ≤ p) (h4 : p ≤ 1024) (h5 : 1 ≤ q) (h6 : q ≤ 1024) (h7 : 0 ≤ n * p) (h8 : n * p ≤ 1125899906842624) (h9 : n * p / q ≤ 1099511627776) :
    Calls Tryd.prog 5 #[.int .i64 n, .int .i64 p, .int .i64 q] w fun e w' => e = .returned (.bool true) ∧ Below w.heap.size w w' := by
  obtain ⟨d1, d2, d3, d4, d5, d6⟩ := div_facts (n * p) q h7 h5
  go_enter Tryd.func5, Tryd.ntmps5
  go_wp2_with fail
  refine (awake_ok _ hh).mono ?_
  rintro e w1 ⟨rfl, hb⟩
  go_wp2_with fail
  refine (conv_ok _ _ _ _ h1 h2 h3 h4 h5 h6 h7 h8 h9).mono ?_
  rintro e w2 ⟨rfl, hb1⟩
  have hb2 := hb.trans (hb1.mono hb.size)
  go_wp2
  go_ret
  exact ⟨rfl, hb2⟩

theorem moneyConvert_walk (w : World) (n : Int) (_ : (Lit.int .i64 n).wf = true) (p : Int) (_ : (Lit.int .i64 p).wf = true) (q : Int) (_ : (Lit.int .i64 q).wf = true) (hh : HasErr w) :
    Calls Tryd.prog 5 #[.int .i64 n, .int .i64 p, .int .i64 q] w fun e w' => e = .returned (.bool true) ∧ Below w.heap.size w w' := by
  by_cases h : 1 ≤ n ∧ n ≤ 1099511627776 ∧ 1 ≤ p ∧ p ≤ 1024 ∧ 1 ≤ q ∧ q ≤ 1024
  · obtain ⟨h1, h2, h3, h4, h5, h6⟩ := h
    obtain ⟨h7, h8⟩ := mul_bounds n p h1 h2 h3 h4
    by_cases h9 : n * p / q ≤ 1099511627776
    · exact convlaw_ok n p q w hh h1 h2 h3 h4 h5 h6 h7 h8 h9
    · exact convlaw_over n p q w hh h1 h2 h3 h4 h5 h6 h7 h8 (by omega)
  · exact convlaw_bad n p q w hh h
end Go.Proofs.YtbdjcmjjicpcaaaDoor
