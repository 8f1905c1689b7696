/-
  varint.pair and varint.unpair by their contracts.
-/
import Derived.Test.YtenepkhglgfpaaaChecked
import Derived.Test.YtenepkhglgfpaaaVarPlain
import Derived.WalkKit
import Derived.Laws.BitsAllLaws
import Derived.Lib.Hide
namespace Go.Proofs.Ytenepkhglgfpaaa
open Go.RowKit

theorem vret_int {k : IntKind} {a b : Int} (h : a = b) : Ending.returned (.int k a) = .returned (.int k b) := by rw [h]

/-- The complement of an int. -/
theorem not_i64 (n : Int) (h1 : -9223372036854775808 ≤ n) (h2 : n ≤ 9223372036854775807) : bits .xor .i64 (-1) n = -1 - n := by
  show IntKind.i64.wrap ((BitVec.ofInt 64 (-1) ^^^ BitVec.ofInt 64 n).toNat : Int) = _
  have e : BitVec.ofInt 64 (-1) ^^^ BitVec.ofInt 64 n = ~~~ BitVec.ofInt 64 n := by
    have : BitVec.ofInt 64 (-1) = BitVec.allOnes 64 := by decide
    rw [this, BitVec.allOnes_xor]
  rw [e, BitVec.toNat_not, BitVec.toNat_ofInt, IntKind.wrap_i64]
  omega

theorem and_one (u : Nat) (h : u < 18446744073709551616) : bits .and .u64 (u : Int) 1 = ((u % 2 : Nat) : Int) := by
  have := u64_and_nat u 1 h (by omega)
  rw [nat_mask1] at this
  exact this

set_option maxHeartbeats 1000000 in
theorem pair_any (n : Int) (w : World) (h1 : -9223372036854775808 ≤ n) (h2 : n ≤ 9223372036854775807) :
    Calls Try.prog 25 #[.int .i64 n] w fun e w' => e = .returned (.int .u64 (pairN n : Nat)) ∧ w = w' := by
  by_cases h : n < 0
  · have hx := not_i64 n h1 h2
    go_enter Try.func25, Try.ntmps25
    go_wp2
    go_ret
    clear hx
    exact ⟨vret_int (by rw [pairN_neg (by assumption)]; simp only [IntKind.wrap_u64]; omega), rfl⟩
  · go_enter Try.func25, Try.ntmps25
    go_wp2
    go_ret
    exact ⟨vret_int (by rw [pairN_pos (by omega)]; omega), rfl⟩

set_option maxHeartbeats 1000000 in
theorem unpair_any (u : Nat) (w : World) (h : u < 18446744073709551616) :
    Calls Try.prog 28 #[.int .u64 (u : Int)] w fun e w' => e = .returned (.int .i64 (unp u)) ∧ w = w' := by
  by_cases ho : u % 2 = 1
  · have hb : (bits .and .u64 (u : Int) 1 == 1) = true := by rw [and_one u h, ho]; rfl
    have hx := not_i64 ((u : Int) / 2) (by omega) (by omega)
    have HO := Lib.hid ho
    clear ho
    go_enter Try.func28, Try.ntmps28
    go_wp2
    go_ret
    exact ⟨vret_int (by unfold unp; rw [if_pos HO.out]; omega), rfl⟩
  · have hb : (bits .and .u64 (u : Int) 1 == 1) = false := by rw [and_one u h, show u % 2 = 0 by omega]; rfl
    have HO := Lib.hid ho
    clear ho
    go_enter Try.func28, Try.ntmps28
    go_wp2
    go_ret
    exact ⟨vret_int (by unfold unp; rw [if_neg HO.out]; omega), rfl⟩
end Go.Proofs.Ytenepkhglgfpaaa
