/-
  The statement CrcOne by its walk.
-/
import Derived.Test.YtkichofkepnpiaaCrcTurnedLaw
namespace Go.Proofs.Ytkichofkepnpiaa
open Go.RowKit
set_option linter.unusedVariables false

theorem ints_snoc (xs : List Nat) (b : Nat) : ints xs ++ [(b : Int)] = ints (xs ++ [b]) := by rw [ints_append, ints_one]
theorem bytes_snoc {xs : List Nat} {b : Nat} (h : ∀ x ∈ xs, x < 256) (hb : b < 256) : ∀ x ∈ xs ++ [b], x < 256 := bytes_mid h hb (by simp)

set_option maxRecDepth 100000 in
set_option maxHeartbeats 2000000 in
theorem crcOne_walk (w : World) (a_ : Int) (ha : (Lit.int .u8 a_).wf = true) (b_ : Int) (hb : (Lit.int .u8 b_).wf = true)
    (d : Option Addr) (len cap : Nat) (zs : List Int) (h : IsRow .u8 w d len cap zs) (hr : cap * 1 ≤ 140737488351232) :
    Calls Try.prog 8 #[.int .u8 a_, .int .u8 b_, .slice d len cap] w fun e w' => e = .returned (.bool true) ∧ Below w.heap.size w w' := by
  obtain ⟨a, rfl, ha8⟩ := u8_nat ha
  obtain ⟨b, rfl, hb8⟩ := u8_nat hb
  obtain ⟨xs, hrd, hxl, hw, hnc, _⟩ := row_bytes h
  have hl : len ≤ 140737488351232 := by omega
  have HR := Lib.hid hrd
  have HW := Lib.hid hw
  have HXL := Lib.hid hxl
  clear h hrd hw hxl ha hb
  go_enter Try.func8, Try.ntmps8
  go_wp2_with fail
  refine (awake_ok w).mono ?_
  rintro e w1 ⟨rfl, hb⟩
  have HB := Lib.hid hb
  have HR1 := Lib.hid (HR.out.below hb)
  clear hb
  go_wp2_with (at_builtin; first | (refine wpList_append_ints _ rfl (.const (.slice none 0 0)) (.tmp 11) 22 rfl .u8 1 w1.heap.size 5 Try.underlying22 info_byte _ 0 [] rfl Own.nil d len cap _ rfl HR1.out (by omega) (by omega) (Nat.le_refl _) ?_; intro v2 w2 ho2 hg2; rw [Nat.zero_add, List.nil_append] at ho2; have HB2 := Lib.hid (show Below w1.heap.size w1 w2 from (Below.refl _ _).grown hg2 (Nat.le_refl _) (fun g he => by have he' : none = some g := he; cases he')); have HO2 := Lib.hid ho2; have hz2 := HB2.out.size; clear ho2 hg2) | (refine wpList_append_ints _ rfl (.tmp 12) (.tmp 14) 22 rfl .u8 1 w1.heap.size 5 Try.underlying22 info_byte _ len (ints xs) rfl (HO2.out.alloc _) (some ⟨w2.heap.size, 0, none⟩) 1 1 _ rfl (Rd.one _) (by omega) (by omega) (by simp; omega) ?_; intro v3 w3 ho3 hg3; have HB3 := Lib.hid (show Below w1.heap.size w1 w3 from (HB2.out.alloc (by omega) _).grown hg3 (by simp; omega) HO2.out.rowLt); rw [ints_snoc] at ho3; obtain ⟨A3, c3, rfl, _, _, hrd3, _⟩ := ho3.form; have HD3 := Lib.hid hrd3; clear ho3 hg3 hrd3))
  refine (sum_any A3 (len + 1) c3 (xs ++ [a]) _ HD3.out (bytes_snoc HW.out ha8) (by omega)).mono ?_
  rintro e w4 ⟨rfl, hb4⟩
  have HB4 := Lib.hid ((HB.out.trans (HB3.out.mono HB.out.size)).trans (hb4.mono (by have := HB.out.size; have := HB3.out.size; omega)))
  have HR4 := Lib.hid (HR.out.below HB4.out)
  clear hb4 HB2 HB3 HO2 hz2 HD3 HB HR1
  go_wp2_with (at_builtin; first | (refine wpList_append_ints _ rfl (.const (.slice none 0 0)) (.tmp 17) 22 rfl .u8 1 w4.heap.size 5 Try.underlying22 info_byte _ 0 [] rfl Own.nil d len cap _ rfl HR4.out (by omega) (by omega) (Nat.le_refl _) ?_; intro v5 w5 ho5 hg5; rw [Nat.zero_add, List.nil_append] at ho5; have HB5 := Lib.hid (show Below w4.heap.size w4 w5 from (Below.refl _ _).grown hg5 (Nat.le_refl _) (fun g he => by have he' : none = some g := he; cases he')); have HO5 := Lib.hid ho5; have hz5 := HB5.out.size; clear ho5 hg5) | (refine wpList_append_ints _ rfl (.tmp 18) (.tmp 20) 22 rfl .u8 1 w4.heap.size 5 Try.underlying22 info_byte _ len (ints xs) rfl (HO5.out.alloc _) (some ⟨w5.heap.size, 0, none⟩) 1 1 _ rfl (Rd.one _) (by omega) (by omega) (by simp; omega) ?_; intro v6 w6 ho6 hg6; have HB6 := Lib.hid (show Below w4.heap.size w4 w6 from (HB5.out.alloc (by omega) _).grown hg6 (by simp; omega) HO5.out.rowLt); rw [ints_snoc] at ho6; obtain ⟨A6, c6, rfl, _, _, hrd6, _⟩ := ho6.form; have HD6 := Lib.hid hrd6; clear ho6 hg6 hrd6))
  refine (sum_any A6 (len + 1) c6 (xs ++ [b]) _ HD6.out (bytes_snoc HW.out hb8) (by omega)).mono ?_
  rintro e w7 ⟨rfl, hb7⟩
  have HB7 := Lib.hid ((HB4.out.trans (HB6.out.mono HB4.out.size)).trans (hb7.mono (by have := HB4.out.size; have := HB6.out.size; omega)))
  clear hb7 HB5 HB6 HO5 hz5 HD6 HB4 HR4
  by_cases hz : a = b
  · subst hz
    obtain ⟨q, hq⟩ : ∃ q, q = csum (xs ++ [a]) := ⟨_, rfl⟩
    rw [← hq]
    have q1 := eqT (show (q : Int) = q from rfl)
    have q2 := eqT (show (a : Int) = a from rfl)
    clear hq
    go_wp2
    go_ret
    exact ⟨rfl, HB7.out⟩
  · have hne : csum (xs ++ [a]) ≠ csum (xs ++ [b]) := fun he => hz (csum_last xs a b HW.out ha8 hb8 he)
    obtain ⟨q, hq⟩ : ∃ q, q = csum (xs ++ [a]) := ⟨_, rfl⟩
    obtain ⟨r, hr⟩ : ∃ r, r = csum (xs ++ [b]) := ⟨_, rfl⟩
    rw [← hq, ← hr] at hne ⊢
    have q1 := eqF (show (q : Int) ≠ (r : Int) by omega)
    have q2 := eqF (show (a : Int) ≠ (b : Int) by omega)
    clear hne hz hq hr
    go_wp2
    go_ret
    exact ⟨rfl, HB7.out⟩
end Go.Proofs.Ytkichofkepnpiaa
