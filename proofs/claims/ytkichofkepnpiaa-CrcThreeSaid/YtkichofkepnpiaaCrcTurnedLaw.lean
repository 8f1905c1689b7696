/-
  The statement CrcTurned by its walk.
-/
import Derived.Test.YtkichofkepnpiaaCrcSumLaw
import Derived.Test.YtkichofkepnpiaaCrcMore
import Derived.Test.YtkichofkepnpiaaOwnAt
namespace Go.Proofs.Ytkichofkepnpiaa
open Go.RowKit
set_option linter.unusedVariables false

theorem u8_nat {b : Int} (h : (Lit.int .u8 b).wf = true) : ∃ n : Nat, b = (n : Int) ∧ n < 256 := by
  simp only [Lit.wf, Bool.and_eq_true, decide_eq_true_eq] at h
  have e1 : IntKind.u8.min = 0 := rfl
  have e2 : IntKind.u8.max = 255 := rfl
  exact ⟨b.toNat, by omega, by omega⟩
theorem u16_nat {b : Int} (h : (Lit.int .u16 b).wf = true) : ∃ n : Nat, b = (n : Int) ∧ n < 65536 := by
  simp only [Lit.wf, Bool.and_eq_true, decide_eq_true_eq] at h
  have e1 : IntKind.u16.min = 0 := rfl
  have e2 : IntKind.u16.max = 65535 := rfl
  exact ⟨b.toNat, by omega, by omega⟩

theorem ints_set (xs : List Nat) (k y : Nat) : (ints xs).set k (y : Int) = ints (xs.set k y) := by simp [ints, List.map_set]

set_option maxRecDepth 100000 in
set_option maxHeartbeats 2000000 in
theorem crcTurned_walk (w : World) (a : Option Addr) (len cap : Nat) (zs : List Int) (h : IsRow .u8 w a len cap zs) (hr : cap * 1 ≤ 140737488351232)
    (at_ : Int) (hat : (Lit.int .u16 at_).wf = true) (by_ : Int) (hby : (Lit.int .u8 by_).wf = true) :
    Calls Try.prog 5 #[.slice a len cap, .int .u16 at_, .int .u8 by_] w fun e w' => e = .returned (.bool true) ∧ Below w.heap.size w w' := by
  obtain ⟨t, rfl, ht⟩ := u16_nat hat
  obtain ⟨b, rfl, hb8⟩ := u8_nat hby
  obtain ⟨xs, hrd, hxl, hw, hnc, _⟩ := row_bytes h
  have hl : len ≤ 140737488351232 := by omega
  have HR := Lib.hid hrd
  have HW := Lib.hid hw
  have HXL := Lib.hid hxl
  clear h hrd hw hxl hat hby
  by_cases h0 : len = 0
  · subst h0
    have hxs : xs = [] := List.eq_nil_of_length_eq_zero HXL.out
    subst hxs
    go_enter Try.func5, Try.ntmps5
    go_wp2_with fail
    refine (awake_ok w).mono ?_
    rintro e w1 ⟨rfl, hb⟩
    have HB := Lib.hid hb
    have HR1 := Lib.hid (HR.out.below hb)
    clear hb
    go_wp2_with fail
    refine (sum_any a 0 cap [] _ HR1.out HW.out (by omega)).mono ?_
    rintro e w2 ⟨rfl, hb⟩
    rw [show csum [] = 0 by rw [csum, creg_nil]]
    have HB2 := Lib.hid (HB.out.trans (hb.mono HB.out.size))
    clear hb
    go_wp2
    go_ret
    exact ⟨rfl, HB2.out⟩
  · have hpos : 0 < len := by omega
    have hlen : ((len : Int) == 0) = false := eqF (by omega)
    clear h0
    have hk1 : 0 ≤ (t : Int) % (len : Int) := Int.emod_nonneg _ (by omega)
    have hk2 : (t : Int) % (len : Int) < (len : Int) := Int.emod_lt_of_pos _ (by omega)
    have hkl : t % len < len := Nat.mod_lt _ hpos
    obtain ⟨x, hx⟩ : ∃ x, x = xs.getD (t % len) 0 := ⟨_, rfl⟩
    have hx8 : x < 256 := by
      have hk' : t % len < xs.length := by rw [HXL.out]; exact hkl
      have h1 : xs.getD (t % len) 0 = xs[t % len] := by simp [List.getD, hk']
      rw [hx, h1]; exact HW.out _ (List.getElem_mem hk')
    have HX := Lib.hid hx
    clear hx
    go_enter Try.func5, Try.ntmps5
    go_wp2_with fail
    refine (awake_ok w).mono ?_
    rintro e w1 ⟨rfl, hb⟩
    have HB := Lib.hid hb
    have HR1 := Lib.hid (HR.out.below hb)
    clear hb
    go_wp2_with (at_builtin; refine wpList_append_ints _ rfl (.const (.slice none 0 0)) (.tmp 17) 22 rfl .u8 1 w1.heap.size 5 Try.underlying22 info_byte _ 0 [] rfl Own.nil a len cap _ rfl HR1.out (by omega) (by omega) (Nat.le_refl _) ?_; intro v2 w2 ho2 hg2; rw [Nat.zero_add, List.nil_append] at ho2; obtain ⟨g, c2, rfl, hg1, hg3, hc2, hm2⟩ := ho2.open_ hpos; have hcell := ho2.cell hkl; rw [ints_getD, ← HX.out] at hcell; have hfz := ho2.unfrozen (t % len); have HB2 := Lib.hid (show Below w1.heap.size w1 w2 from (Below.refl _ _).grown hg2 (Nat.le_refl _) (fun g he => by have he' : none = some g := he; cases he')); have HO2 := Lib.hid ho2; clear ho2 hg2)
    rw [u8_xor_nat x b hx8 hb8]
    have ho3 := HO2.out.set (t % len) ((x ^^^ b : Nat) : Int)
    have hb3 : Below w1.heap.size w1 (w2.setCell ⟨g, t % len, none⟩ (.int .u8 ((x ^^^ b : Nat) : Int))) := HB2.out.setCell hg1 _
    rw [ints_set] at ho3
    obtain ⟨ys, hys⟩ : ∃ ys, ys = xs.set (t % len) (x ^^^ b) := ⟨_, rfl⟩
    rw [← hys] at ho3
    have HY := Lib.hid hys
    have hyw : ∀ y ∈ ys, y < 256 := by
      intro y hy
      rw [hys] at hy
      rcases List.mem_or_eq_of_mem_set hy with hy | rfl
      · exact HW.out y hy
      · exact Nat.xor_lt_two_pow (n := 8) hx8 hb8
    have HYW := Lib.hid hyw
    have HB3 := Lib.hid (HB.out.trans (hb3.mono HB.out.size))
    have HR3 := Lib.hid (HR1.out.below hb3)
    obtain ⟨_, _, he, _, _, hrd3, _⟩ := ho3.form
    obtain ⟨rfl, rfl⟩ := (Value.slice.injEq .. ▸ he : _ ∧ _ ∧ _) |> fun h => And.intro h.1 h.2.2
    have HY3 := Lib.hid hrd3
    clear ho3 hb3 hys hyw hcell hfz hrd3 he
    refine (sum_any a len cap xs _ HR3.out HW.out (by omega)).mono ?_
    rintro e w4 ⟨rfl, hb⟩
    have HB4 := Lib.hid (HB3.out.trans (hb.mono HB3.out.size))
    have HY4 := Lib.hid (HY3.out.below hb)
    clear hb HB3 HR3 HY3
    go_wp2_with fail
    refine (sum_any _ len c2 ys _ HY4.out HYW.out (by omega)).mono ?_
    rintro e w5 ⟨rfl, hb⟩
    have HB5 := Lib.hid (HB4.out.trans (hb.mono HB4.out.size))
    clear hb
    have hkx : t % len < xs.length := by rw [HXL.out]; exact hkl
    by_cases hz : b = 0
    · have e1 : csum ys = csum xs := by rw [HY.out, hz, Nat.xor_zero, HX.out, set_parts xs _ _ hkx, ← own_parts xs _ hkx]
      rw [e1]
      obtain ⟨q, hq⟩ : ∃ q, q = csum xs := ⟨_, rfl⟩
      rw [← hq]
      have q1 := eqT (show (q : Int) = q from rfl)
      subst hz
      clear e1 hq hkx hk1 hk2 hkl
      go_wp2
      go_ret
      exact ⟨rfl, HB5.out⟩
    · have hne : csum xs ≠ csum ys := by
        intro he
        rw [HY.out, HX.out] at he
        exact hz (csum_set xs HW.out _ b hkx hb8 he)
      have q1 := eqF (show ((csum xs : Nat) : Int) ≠ ((csum ys : Nat) : Int) by omega)
      have q2 := eqF (show (b : Int) ≠ 0 by omega)
      clear hne hz hkx hk1 hk2 hkl
      go_wp2
      go_ret
      exact ⟨rfl, HB5.out⟩
end Go.Proofs.Ytkichofkepnpiaa
