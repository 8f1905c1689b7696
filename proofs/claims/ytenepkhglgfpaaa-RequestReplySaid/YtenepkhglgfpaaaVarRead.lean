/-
  varint.read by its contract: it tells the number that bytes begin with, and how many bytes it has.
-/
import Derived.Test.YtenepkhglgfpaaaVarAll
import Derived.Laws.ShiftsVar
namespace Go.Proofs.Ytenepkhglgfpaaa
open Go.RowKit
set_option linter.unusedVariables false

/-- What read hands back. -/
def rdRes : Option (Nat × Nat) → Value
  | some (u, s) => .tuple #[.int .i64 (unp u), .int .i64 (s : Int)]
  | none => .tuple #[.int .i64 0, .int .i64 0]

def ReadPost (w : World) (r : Option (Nat × Nat)) (e : Ending) (w' : World) : Prop := e = .returned (rdRes r) ∧ w = w'

theorem drop_cons_getD (xs : List Nat) (k : Nat) (h : k < xs.length) : xs.drop k = xs.getD k 0 :: xs.drop (k + 1) := by
  rw [List.drop_eq_getElem_cons h]
  simp [List.getD, h]

theorem veqT {a b : Int} (h : a = b) : (a == b) = true := by simp [h]
theorem veqF {a b : Int} (h : a ≠ b) : (a == b) = false := by simp [h]

/-- One group more, laid over what was read. -/
theorem or_step (a k x : Nat) (hk : k ≤ 8 ∨ (k = 9 ∧ x ≤ 1)) (ha : a < 2 ^ (7 * k)) :
    bits .or .u64 (a : Int) (IntKind.u64.wrap ((x : Int) % 128 * 2 ^ (7 * k))) = ((a + x % 128 * 2 ^ (7 * k) : Nat) : Int) ∧ a + x % 128 * 2 ^ (7 * k) < 18446744073709551616 ∧ (k ≤ 8 → a + x % 128 * 2 ^ (7 * k) < 2 ^ (7 * (k + 1))) := by
  have hb : x % 128 * 2 ^ (7 * k) ≤ 9223372036854775808 ∧ (k ≤ 8 → x % 128 * 2 ^ (7 * k) ≤ 127 * 2 ^ (7 * k)) := by
    constructor
    · rcases hk with hk | ⟨rfl, hx⟩
      · have h1 : (2 : Nat) ^ (7 * k) ≤ 2 ^ (7 * 8) := Nat.pow_le_pow_right (by omega) (by omega)
        have h2 : x % 128 * 2 ^ (7 * k) ≤ 127 * 2 ^ (7 * 8) := Nat.mul_le_mul (by omega) h1
        have e : (2 : Nat) ^ (7 * 8) = 72057594037927936 := rfl
        rw [e] at h2
        omega
      · have e : (2 : Nat) ^ (7 * 9) = 9223372036854775808 := rfl
        rw [e]
        omega
    · intro _
      exact Nat.mul_le_mul_right _ (by omega)
  have ha' : a < 9223372036854775808 := by
    have h1 : (2 : Nat) ^ (7 * k) ≤ 2 ^ (7 * 9) := Nat.pow_le_pow_right (by omega) (by omega)
    have e : (2 : Nat) ^ (7 * 9) = 9223372036854775808 := rfl
    rw [e] at h1
    omega
  refine ⟨?_, by omega, fun h => ?_⟩
  · have hz : (x : Int) % 128 * 2 ^ (7 * k) = ((x % 128 * 2 ^ (7 * k) : Nat) : Int) := by
      simp only [Int.natCast_mul, Int.natCast_emod, Int.natCast_pow]
      rfl
    rw [hz, IntWalk.u64_in _ ⟨by omega, by omega⟩, u64_or_nat a _ (by omega) (by omega)]
    congr 1
    rw [Nat.or_comm, nat_join (7 * k) _ a (Nat.mul_mod_left _ _) ha, Nat.add_comm]
  · have := hb.2 h
    rw [pow_up]
    omega

/-- At the loop's head: what is still to be read, with what was read. -/
def RdInv (xs : List Nat) (k : Nat) (U : Int) : Prop := ∃ a : Nat, rd xs = rdF k a (xs.drop k) ∧ (k ≤ 9 → U = (a : Int) ∧ a < 2 ^ (7 * k))

set_option maxRecDepth 100000 in
set_option maxHeartbeats 4000000 in
theorem vread_any (A : Option Addr) (n c : Nat) (xs : List Nat) (w : World) (hr : Rd .u8 w A n (ints xs)) (hw : ∀ x ∈ xs, x < 256) (hnc : n ≤ c) (hl : c ≤ maxLen) :
    Calls Try.prog 26 #[.slice A n c] w (ReadPost w (rd xs)) := by
  unfold maxLen at hl
  have hx : xs.length = n := by have := hr.1; rwa [ints_length] at this
  have HW := Lib.hid hw
  have HR := Lib.hid hr
  have HX := Lib.hid hx
  clear hw hr hx
  go_enter Try.func26, Try.ntmps26
  go_wp2
  all_goals
    go_loop [4, 13] (fun u i => ∃ (k : Nat) (U : Int), k ≤ n ∧ k ≤ 10 ∧ i = .int .i64 k ∧ u = .int .u64 U ∧ RdInv xs k U) (fun _ i => 10 - (intOf i).toNat)
    case atStart => exact ⟨0, 0, Nat.zero_le _, Nat.zero_le _, rfl, rfl, 0, rfl, fun _ => ⟨rfl, by omega⟩⟩
    case round =>
      obtain ⟨k, U, hk, hk10, rfl, rfl, hinv⟩ := hrel
      by_cases hlt : k < n ∧ k < 10
      · obtain ⟨hkn, hk9⟩ := hlt
        obtain ⟨ad, rfl, hcell⟩ := HR.out.at_ hkn
        rw [ints_getD] at hcell
        have hkl : k < xs.length := by rw [HX.out]; exact hkn
        obtain ⟨x, hx⟩ : ∃ x, x = xs.getD k 0 := ⟨_, rfl⟩
        have hx256 : x < 256 := HW.out x (by rw [hx]; simp [List.getD, hkl])
        have HC : Hid (xs.drop k = x :: xs.drop (k + 1)) := Lib.hid (by rw [hx]; exact drop_cons_getD xs k hkl)
        rw [← hx] at hcell
        clear hx hkl
        obtain ⟨a, hrd, hU⟩ := hinv
        obtain ⟨rfl, ha⟩ := hU (by omega)
        have HA := Lib.hid ha
        have HV := Lib.hid hrd
        clear hU ha hrd
        by_cases hc : 128 ≤ x
        · have HI : Hid (RdInv xs (k + 1) (bits .or .u64 (a : Int) (IntKind.u64.wrap ((x : Int) % 128 * 2 ^ (7 * k))))) := Lib.hid ⟨a + x % 128 * 2 ^ (7 * k), by rw [HV.out, HC.out, rdF_more hk9 hc], fun h => by
            have := or_step a k x (.inl (by omega)) HA.out
            exact ⟨this.1, this.2.2 (by omega)⟩⟩
          go_wp2
          go_round
          case rel => exact ⟨k + 1, _, by omega, by omega, by go_num, rfl, HI.out⟩
          case measure => simp [intOf]; omega
        · by_cases hbad : (x = 0 ∧ 0 < k) ∨ (k = 9 ∧ 1 < x)
          · have HI : Hid (rd xs = none) := Lib.hid (by rw [HV.out, HC.out, rdF_bad hk9 (by omega) hbad])
            by_cases h0 : x = 0
            · have b0 := veqT (show (x : Int) = 0 by omega)
              have b1 : 0 < k := by omega
              clear hbad h0
              go_wp2
              go_ret2
              exact ⟨by rw [HI.out]; rfl, rfl⟩
            · have b0 := veqF (show (x : Int) ≠ 0 by omega)
              have b9 := veqT (show (k : Int) = 9 by omega)
              have b1 : 1 < x := by omega
              clear hbad h0
              go_wp2
              go_ret2
              exact ⟨by rw [HI.out]; rfl, rfl⟩
          · have hs := or_step a k x (by omega) HA.out
            obtain ⟨u, hu⟩ : ∃ u, u = a + x % 128 * 2 ^ (7 * k) := ⟨_, rfl⟩
            rw [← hu] at hs
            have HI : Hid (rd xs = some (u, k + 1)) := Lib.hid (by rw [HV.out, HC.out, rdF_last hk9 (by omega) hbad, hu])
            obtain ⟨hor, hu64, _⟩ := hs
            clear hu
            by_cases h0 : x = 0
            · have b0 := veqT (show (x : Int) = 0 by omega)
              have b1 : k ≤ 0 := by omega
              have b9 := veqF (show (k : Int) ≠ 9 by omega)
              clear hbad h0
              go_wp2_with fail
              refine (unpair_any u _ hu64).mono ?_
              rintro e w' ⟨rfl, rfl⟩
              go_wp2
              go_ret2
              exact ⟨by rw [HI.out]; rfl, rfl⟩
            · have b0 := veqF (show (x : Int) ≠ 0 by omega)
              by_cases h9 : k = 9
              · have b9 := veqT (show (k : Int) = 9 by omega)
                have b1 : x ≤ 1 := by omega
                clear hbad h0 h9
                go_wp2_with fail
                refine (unpair_any u _ hu64).mono ?_
                rintro e w' ⟨rfl, rfl⟩
                go_wp2
                go_ret2
                exact ⟨by rw [HI.out]; rfl, rfl⟩
              · have b9 := veqF (show (k : Int) ≠ 9 by omega)
                clear hbad h0 h9
                go_wp2_with fail
                refine (unpair_any u _ hu64).mono ?_
                rintro e w' ⟨rfl, rfl⟩
                go_wp2
                go_ret2
                exact ⟨by rw [HI.out]; rfl, rfl⟩
      · have HI : Hid (rd xs = none) := Lib.hid (by
          obtain ⟨a, hrd, _⟩ := hinv
          rw [hrd]
          rcases Nat.lt_or_ge k 10 with h | h
          · rw [List.drop_eq_nil_of_le (by rw [HX.out]; omega)]; rfl
          · exact rdF_over h _ _)
        clear hinv
        go_wp2
        go_ret2
        exact ⟨by rw [HI.out]; rfl, rfl⟩
end Go.Proofs.Ytenepkhglgfpaaa
