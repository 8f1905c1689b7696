/-
  Small words of the laws' walks: integers that came in as natural numbers; the lesser of two.
-/
import Derived.Test.YtdcghnoioecglaaInts
namespace Go.Proofs.Ytdcghnoioecglaa
open Go.RowKit

theorem u8_nat {b : Int} (h : (Lit.int .u8 b).wf = true) : ∃ n : Nat, b = (n : Int) ∧ n < 256 := by
  simp only [Lit.wf, Bool.and_eq_true, decide_eq_true_eq] at h
  have e1 : IntKind.u8.min = 0 := rfl
  have e2 : IntKind.u8.max = 255 := rfl
  exact ⟨b.toNat, by omega, by omega⟩
theorem u16_nat {b : Int} (h : (Lit.int .u16 b).wf = true) : ∃ n : Nat, b = (n : Int) ∧ n < 65536 := by
  simp only [Lit.wf, Bool.and_eq_true, decide_eq_true_eq] at h
  have e1 : IntKind.u16.min = 0 := rfl
  have e2 : IntKind.u16.max = 65535 := rfl
  exact ⟨b.toNat, by omega, by omega⟩

theorem ints_set (xs : List Nat) (k y : Nat) : (ints xs).set k (y : Int) = ints (xs.set k y) := by simp [ints, List.map_set]

theorem min2_int {P : Program} (x y : Int) (W : World) (ts : Array TypeId) (t : TypeId) :
    (Builtin.min_ ts t #[.int .i64 x, .int .i64 y]).run P W = .ok (.int .i64 (if y < x then y else x)) W := by
  simp [Builtin.min_, Builtin.min2]
theorem min2_ok {P : Program} (la lb n : Nat) (x y : Int) (hx : x = la) (hy : y = lb) (h : n = min la lb) (W : World) (ts : Array TypeId) (t : TypeId) :
    (Builtin.min_ ts t #[.int .i64 x, .int .i64 y]).run P W = .ok (.int .i64 (n : Int)) W := by
  rw [min2_int]
  subst h hx hy
  congr 2
  split <;> omega
theorem getD_lt {xs : List Nat} (h : ∀ x ∈ xs, x < 256) (j : Nat) : xs.getD j 0 < 256 := by
  by_cases hj : j < xs.length
  · have h1 : xs.getD j 0 = xs[j] := by simp [List.getD, hj]
    rw [h1]; exact h _ (List.getElem_mem hj)
  · simp [List.getD, hj]
end Go.Proofs.Ytdcghnoioecglaa
