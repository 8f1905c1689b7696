/-
  The statements CrcSum and CrcZero by their walks.
-/
import Derived.Test.YtkichofkepnpiaaCrcSaid
import Derived.Test.YtkichofkepnpiaaRowArg
namespace Go.Proofs.Ytkichofkepnpiaa
open Go.RowKit
set_option linter.unusedVariables false

theorem eqT {a b : Int} (h : a = b) : (a == b) = true := by simp [h]
theorem eqF {a b : Int} (h : a ≠ b) : (a == b) = false := by simp [h]

set_option maxRecDepth 100000 in
set_option maxHeartbeats 2000000 in
theorem crcSum_walk (w : World) (a : Option Addr) (len cap : Nat) (zs : List Int) (h : IsRow .u8 w a len cap zs) (hr : cap * 1 ≤ 140737488351232) :
    Calls Try.prog 3 #[.slice a len cap] w fun e w' => e = .returned (.bool true) ∧ Below w.heap.size w w' := by
  obtain ⟨xs, hrd, hxl, hw, hnc, _⟩ := row_bytes h
  have hl : len ≤ 9223372036854775807 := by omega
  have HR := Lib.hid hrd
  have HW := Lib.hid hw
  clear h hrd hw hxl
  obtain ⟨q, hq⟩ : ∃ q, q = csum xs := ⟨_, rfl⟩
  have HQ := Lib.hid hq
  have hqq := eqT (show (q : Int) = q from rfl)
  clear hq
  go_enter Try.func3, Try.ntmps3
  go_wp2_with fail
  refine (awake_ok w).mono ?_
  rintro e w1 ⟨rfl, hb⟩
  have HB := Lib.hid hb
  have HR1 := Lib.hid (HR.out.below hb)
  clear hb
  go_wp2_with fail
  refine (sum_any a len cap xs _ HR1.out HW.out hl).mono ?_
  rintro e w2 ⟨rfl, hb⟩
  rw [← HQ.out]
  have HB2 := Lib.hid (HB.out.trans (hb.mono HB.out.size))
  have HR2 := Lib.hid (HR1.out.below hb)
  clear hb
  go_wp2_with fail
  refine (said_any a len cap xs _ HR2.out HW.out hl).mono ?_
  rintro e w3 ⟨rfl, rfl⟩
  rw [← HQ.out]
  go_wp2
  go_ret
  exact ⟨rfl, HB2.out⟩

theorem write_none (b o : Nat) (w : World) (hc : w.cell? ⟨b, o, none⟩ = some (.int .u32 0)) (hf : w.frozen? ⟨b, o, none⟩ = false) :
    Calls Try.prog 12 #[.pointer (some ⟨b, o, none⟩), .slice none 0 0] w fun e w' => e = .returned (.tuple #[]) ∧ w' = w.setCell ⟨b, o, none⟩ (.int .u32 0) :=
  (write_any b o 0 none 0 0 [] w (by omega) hc hf Rd.nil (by simp) (by omega)).mono fun _ _ h => h

set_option maxRecDepth 100000 in
set_option maxHeartbeats 2000000 in
theorem crcZero_walk (w : World) (a : Option Addr) (len cap : Nat) (zs : List Int) (h : IsRow .u8 w a len cap zs) (hr : cap * 1 ≤ 140737488351232) :
    Calls Try.prog 7 #[.slice a len cap] w fun e w' => e = .returned (.bool true) ∧ Below w.heap.size w w' := by
  obtain ⟨xs, hrd, hxl, hw, hnc, _⟩ := row_bytes h
  have hl : len ≤ 9223372036854775807 := by omega
  have HR := Lib.hid hrd
  have HW := Lib.hid hw
  clear h hrd hw hxl
  obtain ⟨q, hq⟩ : ∃ q, q = csum xs := ⟨_, rfl⟩
  have HQ := Lib.hid hq
  have hqq := eqT (show (q : Int) = q from rfl)
  clear hq
  go_enter Try.func7, Try.ntmps7
  go_wp2_with fail
  refine (awake_ok w).mono ?_
  rintro e w1 ⟨rfl, hb⟩
  have HB := Lib.hid hb
  have HR1 := Lib.hid (HR.out.below hb)
  clear hb
  go_wp2_with fail
  refine (write_none _ _ _ (by simp) (by simp)).mono ?_
  rintro e w' ⟨rfl, rfl⟩
  go_wp2_with fail
  refine (total_any _ _ 0 _ (by simp)).mono ?_
  rintro e w' ⟨rfl, rfl⟩
  go_wp2_with fail
  refine (total_any _ _ 0 _ (by simp)).mono ?_
  rintro e w' ⟨rfl, rfl⟩
  go_wp2_with fail
  refine (write_any _ _ 0 a len cap xs _ (by omega) (by simp) (by simp) ((HR1.out.alloc _).alloc _) HW.out hl).mono ?_
  rintro e w' ⟨rfl, rfl⟩
  have e1 : 4294967295 - creg (4294967295 - 0) xs = q := by rw [HQ.out]; rfl
  rw [e1]
  clear e1
  go_wp2_with fail
  refine (total_any _ _ q _ (by simp)).mono ?_
  rintro e w' ⟨rfl, rfl⟩
  go_wp2_with fail
  refine (said_any a len cap xs _ ((HR1.out.alloc _).alloc _) HW.out hl).mono ?_
  rintro e w3 ⟨rfl, rfl⟩
  rw [← HQ.out]
  go_wp2
  go_ret
  exact ⟨rfl, (HB.out.alloc HB.out.size _).alloc (by have := HB.out.size; simp; omega) _⟩
end Go.Proofs.Ytkichofkepnpiaa
