/-
  The statements' own 'sum' and 'awake' by their contracts.
-/
import Derived.Test.YtkichofkepnpiaaCrcWrite
import Derived.Lib.SlBytesConst
namespace Go.Proofs.Ytkichofkepnpiaa
open Go.RowKit

theorem tmod_two (q : Nat) : ((q : Int) % 2 == 1) = decide (q % 2 = 1) := by
  rcases Nat.mod_two_eq_zero_or_one q with h | h
  · rw [show (q : Int) % 2 = 0 by omega]; simp [h]
  · rw [show (q : Int) % 2 = 1 by omega]; simp [h]

set_option maxRecDepth 100000 in
set_option maxHeartbeats 2000000 in
theorem said_any (A : Option Addr) (n c : Nat) (xs : List Nat) (w : World) (hr : Rd .u8 w A n (ints xs)) (hx : ∀ x ∈ xs, x < 256) (hn : n ≤ 9223372036854775807) :
    Calls Try.prog 11 #[.slice A n c] w fun e w' => e = .returned (.int .u32 (csum xs : Nat)) ∧ w = w' := by
  have hl : xs.length = n := by have := hr.1; rwa [ints_length] at this
  have HL := Lib.hid hl
  have HR := Lib.hid hr
  have HX := Lib.hid hx
  clear hl hr hx
  go_enter Try.func11, Try.ntmps11
  go_wp2
  go_loop [3, 9] (fun x i => ∃ k : Nat, k ≤ n ∧ i = .int .i64 k ∧ x = .int .u32 (creg 4294967295 (xs.take k) : Nat)) (fun _ i => n - (intOf i).toNat)
  case atStart => exact ⟨0, by omega, rfl, rfl⟩
  case round =>
    obtain ⟨k, hk, rfl, rfl⟩ := hrel
    have hq : creg 4294967295 (xs.take k) < 4294967296 := creg_lt _ (by omega) fun x hm => HX.out x (List.mem_of_mem_take hm)
    obtain ⟨q, hqe⟩ : ∃ q, q = creg 4294967295 (xs.take k) := ⟨_, rfl⟩
    rw [← hqe] at hq ⊢
    have HQ := Lib.hid hqe
    clear hqe
    by_cases hlt : k < n
    · obtain ⟨ad, rfl, hcell⟩ := HR.out.at_ hlt
      rw [ints_getD] at hcell
      have hkl : k < xs.length := by rw [HL.out]; exact hlt
      have HT := Lib.hid (take_succ_nat xs k hkl)
      obtain ⟨x, hxe⟩ : ∃ x, x = xs.getD k 0 := ⟨_, rfl⟩
      rw [← hxe] at hcell HT
      have hx1 : x < 256 := HX.out x (by rw [hxe]; simp [List.getD, hkl])
      clear hxe hkl
      have HXR := Lib.hid (u32_xor_nat q x hq (by omega))
      have hr0 := xor_lt32 hq (show x < 4294967296 by omega)
      obtain ⟨r0, hr0e⟩ : ∃ r0, r0 = q ^^^ x := ⟨_, rfl⟩
      rw [← hr0e] at hr0 HXR
      have HR0 := Lib.hid hr0e
      clear hr0e
      go_wp2
      go_loop [3, 6] (fun y i => ∃ j : Nat, j ≤ 8 ∧ i = .int .i64 j ∧ y = .int .u32 (citer j r0 : Nat)) (fun _ i => 8 - (intOf i).toNat)
      case atStart => exact ⟨0, by omega, rfl, by rw [HXR.out]; rfl⟩
      case round =>
        obtain ⟨j, hj, rfl, rfl⟩ := hrel
        have hp := citer_lt j hr0
        have HC := Lib.hid (show citer (j + 1) r0 = cstep (citer j r0) from rfl)
        obtain ⟨p, hpe⟩ : ∃ p, p = citer j r0 := ⟨_, rfl⟩
        rw [← hpe] at hp HC ⊢
        have HP := Lib.hid hpe
        clear hpe
        by_cases hjt : j < 8
        · by_cases hodd : p % 2 = 1
          · have ho : ((p : Int) % 2 == 1) = true := by rw [tmod_two]; simp [hodd]
            have HO := Lib.hid hodd
            clear hodd
            go_wp2
            go_round
            case rel => exact ⟨j + 1, by omega, by go_num, by
              rw [HC.out, cstep, if_pos HO.out, show (p : Int) / 2 = ((p / 2 : Nat) : Int) by omega]
              exact congrArg _ (u32_xor_nat (p / 2) 3988292384 (by omega) (by omega))⟩
            case measure => simp [intOf]; omega
          · have ho : ((p : Int) % 2 == 1) = false := by rw [tmod_two]; simp [hodd]
            have HO := Lib.hid hodd
            clear hodd
            go_wp2
            go_round
            case rel => exact ⟨j + 1, by omega, by go_num, by
              rw [HC.out, cstep, if_neg HO.out, show (p : Int) / 2 = ((p / 2 : Nat) : Int) by omega]⟩
            case measure => simp [intOf]; omega
        · obtain rfl : j = 8 := by omega
          go_wp2
          go_round
          case rel => exact ⟨k + 1, by omega, by go_num, by rw [HT.out, creg_snoc, ← HQ.out, HP.out, HR0.out]⟩
          case measure => simp [intOf]; omega
    · have he : xs.take k = xs := List.take_of_length_le (by rw [HL.out]; omega)
      rw [he] at HQ
      clear he
      go_wp2
      go_ret
      exact ⟨ret_int (by rw [csum, ← HQ.out]; omega), rfl⟩

theorem csum_awake : csum [49, 50, 51, 52, 53, 54, 55, 56, 57] = 3421780262 := by kernel_rfl

/-- Bytes in a new block. -/
theorem Rd.nine {w : World} {t : TypeId} {m : Nat × Nat} : Rd .u8 (w.alloc (.cells #[.int .u8 49, .int .u8 50, .int .u8 51, .int .u8 52, .int .u8 53, .int .u8 54, .int .u8 55, .int .u8 56, .int .u8 57] t m)) (some ⟨w.heap.size, 0, none⟩) 9 (ints [49, 50, 51, 52, 53, 54, 55, 56, 57]) :=
  ⟨rfl, fun _ => ⟨_, rfl, fun j hj => by
    rcases (show j = 0 ∨ j = 1 ∨ j = 2 ∨ j = 3 ∨ j = 4 ∨ j = 5 ∨ j = 6 ∨ j = 7 ∨ j = 8 by omega) with rfl | rfl | rfl | rfl | rfl | rfl | rfl | rfl | rfl <;> simp [Addr.add, ints, World.cell?_alloc_mark]⟩⟩

set_option maxHeartbeats 1000000 in
theorem awake_ok (w : World) : Calls Try.prog 9 #[] w fun e w' => e = .returned (.bool true) ∧ Below w.heap.size w w' := by
  have hcv := Lib.run_convert_bytes_const (P := Try.prog) w 22 5 #[.int .u8 49, .int .u8 50, .int .u8 51, .int .u8 52, .int .u8 53, .int .u8 54, .int .u8 55, .int .u8 56, .int .u8 57] 9 9 Try.underlying22 Try.underlying5
  go_enter Try.func9, Try.ntmps9
  go_wp2_with fail
  clear hcv
  refine (sum_any _ 9 9 [49, 50, 51, 52, 53, 54, 55, 56, 57] _ Rd.nine (by decide) (by omega)).mono ?_
  rintro e w1 ⟨rfl, hb⟩
  rw [csum_awake]
  have HB := Lib.hid hb
  clear hb
  go_wp2
  go_ret
  exact ⟨rfl, ((Below.refl _ _).alloc (Nat.le_refl _) _).trans (HB.out.mono (by simp))⟩
end Go.Proofs.Ytkichofkepnpiaa
