/-
  crc.shift by its contract: eight steps of the register.
-/
import Derived.Test.YtgdhlkfbohjilaaChecked
import Derived.Test.YtgdhlkfbohjilaaCrcPlain
import Derived.WalkKit
import Derived.Lib.Hide
namespace Go.Proofs.Ytgdhlkfbohjilaa
open Go.RowKit

theorem ret_int {k : IntKind} {a b : Int} (h : a = b) : Ending.returned (.int k a) = .returned (.int k b) := by rw [h]

/-- The step as the code writes it, without a branch. -/
theorem bits_cstep (q : Nat) (h : q < 4294967296) :
    bits .xor .u32 ((q : Int) / 2) (bits .and .u32 3988292384 (-bits .and .u32 (q : Int) 1 % 4294967296)) = ((cstep q : Nat) : Int) := by
  have e1 : bits .and .u32 (q : Int) 1 = ((q % 2 : Nat) : Int) := by
    have := u32_and_nat q 1 h (by omega)
    rw [Nat.and_one_is_mod] at this
    exact this
  have e0 : (q : Int) / 2 = ((q / 2 : Nat) : Int) := by omega
  rw [e1, e0]
  unfold cstep
  rcases Nat.mod_two_eq_zero_or_one q with hq | hq
  · rw [hq]
    have e2 : (-(((0 : Nat)) : Int)) % 4294967296 = ((0 : Nat) : Int) := by omega
    have e3 := u32_and_nat 3988292384 0 (by omega) (by omega)
    rw [Nat.and_zero] at e3
    rw [e2]
    show bits .xor .u32 _ (bits .and .u32 ((3988292384 : Nat) : Int) _) = _
    rw [e3, u32_xor_nat _ _ (by omega) (by omega), Nat.xor_zero, if_neg (by omega)]
  · rw [hq]
    have e2 : (-(((1 : Nat)) : Int)) % 4294967296 = ((4294967295 : Nat) : Int) := by omega
    have e3 := u32_and_nat 3988292384 4294967295 (by omega) (by omega)
    rw [show (3988292384 &&& 4294967295 : Nat) = 3988292384 from by decide] at e3
    rw [e2]
    show bits .xor .u32 _ (bits .and .u32 ((3988292384 : Nat) : Int) _) = _
    rw [e3, u32_xor_nat _ _ (by omega) (by omega), if_pos rfl]
    rfl

set_option maxRecDepth 100000 in
set_option maxHeartbeats 1000000 in
theorem shift_any (r : Nat) (w : World) (h : r < 4294967296) :
    Calls Try.prog 23 #[.int .u32 (r : Int)] w fun e w' => e = .returned (.int .u32 (citer 8 r : Nat)) ∧ w = w' := by
  go_enter Try.func23, Try.ntmps23
  go_wp2
  go_loop [0, 4] (fun x i => ∃ k : Nat, k ≤ 8 ∧ i = .int .i64 k ∧ x = .int .u32 (citer k r : Nat)) (fun _ i => 8 - (intOf i).toNat)
  case atStart => exact ⟨0, by omega, rfl, rfl⟩
  case round =>
    obtain ⟨k, hk, rfl, rfl⟩ := hrel
    have hq := citer_lt k h
    have HC := Lib.hid (show citer (k + 1) r = cstep (citer k r) from rfl)
    obtain ⟨q, hqe⟩ : ∃ q, q = citer k r := ⟨_, rfl⟩
    rw [← hqe] at hq HC ⊢
    have HQ := Lib.hid hqe
    clear hqe
    by_cases hlt : k < 8
    · go_wp2
      go_round
      case rel => exact ⟨k + 1, by omega, by go_num, by rw [bits_cstep q hq, ← HC.out]⟩
      case measure => simp [intOf]; omega
    · go_wp2
      go_ret
      obtain rfl : k = 8 := by omega
      exact ⟨by rw [← HQ.out]; rfl, rfl⟩
end Go.Proofs.Ytgdhlkfbohjilaa
