/-
  Two arrays of three ints, compared.
-/
import Derived.Test.YtbneohglblkmeaaDoorAcc
import Derived.WalkKit
namespace Go.Proofs.YtbneohglblkmeaaDoor
open Go Go.RowKit
set_option linter.unusedVariables false

/-- An array of three ints compared with zeros. -/
theorem arr_zero_d (d : Nat) (x y z : Int) (W : World) (e : ∀ a b : Int, (Op.equalIn d 3 (.int .i64 a) (.int .i64 b)).run Tryd.prog W = .ok (a == b) W) :
    (Op.equalIn (d + 1) 58 (.agg #[.int .i64 x, .int .i64 y, .int .i64 z]) (.agg #[.int .i64 0, .int .i64 0, .int .i64 0])).run Tryd.prog W = .ok (decide (x = 0 ∧ y = 0 ∧ z = 0)) W := by
  have hs : (sizeOf 3).run Tryd.prog W = .ok 1 W := by kernel_rfl
  have p0 : (part 3 #[.int .i64 x, .int .i64 y, .int .i64 z] 0).run Tryd.prog W = .ok (.int .i64 x) W := by kernel_rfl
  have p1 : (part 3 #[.int .i64 x, .int .i64 y, .int .i64 z] 1).run Tryd.prog W = .ok (.int .i64 y) W := by kernel_rfl
  have p2 : (part 3 #[.int .i64 x, .int .i64 y, .int .i64 z] 2).run Tryd.prog W = .ok (.int .i64 z) W := by kernel_rfl
  have q0 : (part 3 #[.int .i64 0, .int .i64 0, .int .i64 0] 0).run Tryd.prog W = .ok (.int .i64 0) W := by kernel_rfl
  have q1 : (part 3 #[.int .i64 0, .int .i64 0, .int .i64 0] 1).run Tryd.prog W = .ok (.int .i64 0) W := by kernel_rfl
  have q2 : (part 3 #[.int .i64 0, .int .i64 0, .int .i64 0] 2).run Tryd.prog W = .ok (.int .i64 0) W := by kernel_rfl
  simp only [Op.equalIn, Sem.run_bind, run_underlying Tryd.underlying58, Result.andThen_ok, hs]
  by_cases h0 : x = 0
  · subst h0
    by_cases h1 : y = 0
    · subst h1
      by_cases h2 : z = 0
      · subst h2
        simp [Std.Legacy.Range.forIn_eq_forIn_range', Std.Legacy.Range.size, List.range', p0, p1, p2, e]
      · simp [Std.Legacy.Range.forIn_eq_forIn_range', Std.Legacy.Range.size, List.range', p0, p1, p2, q0, q1, q2, e, h2]
    · simp [Std.Legacy.Range.forIn_eq_forIn_range', Std.Legacy.Range.size, List.range', p0, p1, q0, q1, e, h1]
  · simp [Std.Legacy.Range.forIn_eq_forIn_range', Std.Legacy.Range.size, List.range', p0, q0, e, h0]
theorem arr_cmp (x y z : Int) (W : World) : (Op.equalIn 10000 58 (.agg #[.int .i64 x, .int .i64 y, .int .i64 z]) (.agg #[.int .i64 0, .int .i64 0, .int .i64 0])).run Tryd.prog W = .ok (decide (x = 0 ∧ y = 0 ∧ z = 0)) W :=
  arr_zero_d 9999 x y z W fun a b => run_equalIn_int (P := Tryd.prog) W 9998 3 .i64 .i64 a b Tryd.underlying3
end Go.Proofs.YtbneohglblkmeaaDoor
