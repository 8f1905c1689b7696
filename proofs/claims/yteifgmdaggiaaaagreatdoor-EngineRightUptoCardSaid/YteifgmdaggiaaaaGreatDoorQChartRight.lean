/-
  chart.Right, and the law's own right, by their contracts: they tell whether accounts are right.
-/
import Derived.Test.YteifgmdaggiaaaaGreatDoorQChart
namespace Go.Proofs.YteifgmdaggiaaaaGreatDoor
open Go Go.RowKit
set_option linter.unusedVariables false
theorem rightB_short {zs : List Ac} (h : ¬ (9 ≤ zs.length ∧ zs.length ≤ 64)) : rightB zs = false := by simp only [rightB, decide_eq_false h, Bool.false_and]
theorem rightB_mid {zs : List Ac} (h : 9 ≤ zs.length ∧ zs.length ≤ 64) : rightB zs = allOk 0 zs := by simp only [rightB, decide_eq_true h, Bool.true_and]
theorem allOk_end (zs : List Ac) (k n : Nat) (h : zs.length ≤ n) : allOk k (zs.drop n) = true := by rw [List.drop_eq_nil_of_le h]; rfl
set_option maxRecDepth 100000 in
set_option maxHeartbeats 4000000 in
theorem right_any (A : Option Addr) (n cap : Nat) (zs : List Ac) (w : World) (hl : zs.length = n) (hr : RdA w A zs) (hn : n ≤ 9223372036854775807) :
  Calls Tryz.prog 16 #[.slice A n cap] w fun e w' => e = .returned (.bool (rightB zs)) ∧ Below w.heap.size w w' := by
 have HR := Lib.hid hr
 have HL := Lib.hid hl
 obtain ⟨r, hres⟩ : ∃ r, rightB zs = r := ⟨_, rfl⟩
 rw [hres]
 have HRES := Lib.hid hres
 clear hr hl hres
 by_cases h9 : n < 9
 · obtain rfl : r = false := by rw [← HRES.out]; exact rightB_short (by rw [HL.out]; omega)
   go_enter Tryz.func16, Tryz.ntmps16
   go_wp2
   go_ret
   exact ⟨rfl, Below.refl _ _⟩
 by_cases h64 : 64 < n
 · obtain rfl : r = false := by rw [← HRES.out]; exact rightB_short (by rw [HL.out]; omega)
   go_enter Tryz.func16, Tryz.ntmps16
   go_wp2
   go_ret
   exact ⟨rfl, Below.refl _ _⟩
 have hmid : allOk 0 zs = r := by rw [← HRES.out]; exact (rightB_mid (by rw [HL.out]; omega)).symm
 have HMID := Lib.hid hmid
 clear hmid
 go_enter Tryz.func16, Tryz.ntmps16
 go_wp2
 go_loopw [15] (fun i wr => ∃ k : Nat, k ≤ n ∧ i = .int .i64 (k : Int) ∧ allOk k (zs.drop k) = r ∧ Below w.heap.size w wr) (fun i _ => n - (intOf i).toNat)
 case atStart => exact ⟨0, Nat.zero_le _, rfl, HMID.out, Below.refl _ _⟩
 case round =>
  obtain ⟨k, hk, rfl, hrest, hbel⟩ := hrel
  have HREST := Lib.hid hrest
  have HBEL := Lib.hid hbel
  have hsz := hbel.size
  clear hrest hbel
  by_cases hlt : k < n
  · obtain ⟨a, ha⟩ : ∃ a, zs[k]? = some a := ⟨_, List.getElem?_eq_getElem (by rw [HL.out]; exact hlt)⟩
    obtain ⟨ad, rfl, hat⟩ := (HR.out.below HBEL.out).at_ ha
    have hstep := allOk_drop zs k k a ha
    rw [HREST.out] at hstep
    have HSTEP := Lib.hid hstep
    obtain ⟨c0, c1, c2⟩ := hat
    rw [add_next ad (k * 3) 1 (by omega)] at c1
    rw [add_next ad (k * 3) 2 (by omega)] at c2
    clear ha hstep HREST
    obtain ⟨c, b, l⟩ := a
    simp only at c0 c1 c2
    obtain ⟨t1, ht1⟩ : ∃ t, decide (0 ≤ c ∧ c < 3) = t := ⟨_, rfl⟩
    obtain ⟨t2, ht2⟩ : ∃ t, decide (-1125899906842624 ≤ b ∧ b ≤ 1125899906842624) = t := ⟨_, rfl⟩
    obtain ⟨t3, ht3⟩ : ∃ t, decide (l = 0 ∧ c = (k : Int) / 3) = t := ⟨_, rfl⟩
    obtain ⟨t4, ht4⟩ : ∃ t, decide (0 ≤ l ∧ l ≤ b) = t := ⟨_, rfl⟩
    have H1 := Lib.hid (fun W => isCur_any c W)
    have H2 := Lib.hid (fun W => isBal_any b W)
    have H3 := Lib.hid (fun W => isHouse_any ⟨c, b, l⟩ k (by omega) W)
    have H4 := Lib.hid (fun W => isHeld_any ⟨c, b, l⟩ W)
    have HOK : Hid (okAt k ⟨c, b, l⟩ = (t1 && t2 && if k < 9 then t3 else t4)) := Lib.hid (by simp only [okAt, ht1, ht2, ht3, ht4])
    simp only [ht1, ht2, ht3, ht4] at H1 H2 H3 H4
    clear ht1 ht2 ht3 ht4
    cases t1 with
    | false =>
      obtain rfl : r = false := by rw [HSTEP.out, HOK.out]; simp
      go_wp2_with (first
      | (go_at_call 44; refine (H1.out _).mono ?_; rintro e w1 ⟨rfl, rfl⟩)
      | (go_at_call 45; refine (H2.out _).mono ?_; rintro e w1 ⟨rfl, rfl⟩)
      | (go_at_call 46; refine (H3.out _).mono ?_; rintro e w2 ⟨rfl, hb2⟩)
      | (go_at_call 47; refine (H4.out _).mono ?_; rintro e w2 ⟨rfl, hb2⟩))
      go_ret
      exact ⟨rfl, HBEL.out.alloc hsz _⟩
    | true =>
      cases t2 with
      | false =>
        obtain rfl : r = false := by rw [HSTEP.out, HOK.out]; simp
        go_wp2_with (first
      | (go_at_call 44; refine (H1.out _).mono ?_; rintro e w1 ⟨rfl, rfl⟩)
      | (go_at_call 45; refine (H2.out _).mono ?_; rintro e w1 ⟨rfl, rfl⟩)
      | (go_at_call 46; refine (H3.out _).mono ?_; rintro e w2 ⟨rfl, hb2⟩)
      | (go_at_call 47; refine (H4.out _).mono ?_; rintro e w2 ⟨rfl, hb2⟩))
        go_ret
        exact ⟨rfl, HBEL.out.alloc hsz _⟩
      | true =>
        by_cases hk9 : k < 9
        · cases t3 with
          | false =>
            obtain rfl : r = false := by rw [HSTEP.out, HOK.out]; simp [hk9]
            go_wp2_with (first
      | (go_at_call 44; refine (H1.out _).mono ?_; rintro e w1 ⟨rfl, rfl⟩)
      | (go_at_call 45; refine (H2.out _).mono ?_; rintro e w1 ⟨rfl, rfl⟩)
      | (go_at_call 46; refine (H3.out _).mono ?_; rintro e w2 ⟨rfl, hb2⟩)
      | (go_at_call 47; refine (H4.out _).mono ?_; rintro e w2 ⟨rfl, hb2⟩))
            go_ret
            exact ⟨rfl, (HBEL.out.alloc hsz _).trans (hb2.mono (by simp; omega))⟩
          | true =>
            have HN : Hid (allOk (k + 1) (zs.drop (k + 1)) = r) := Lib.hid (by rw [HSTEP.out, HOK.out]; simp [hk9])
            go_wp2_with (first
      | (go_at_call 44; refine (H1.out _).mono ?_; rintro e w1 ⟨rfl, rfl⟩)
      | (go_at_call 45; refine (H2.out _).mono ?_; rintro e w1 ⟨rfl, rfl⟩)
      | (go_at_call 46; refine (H3.out _).mono ?_; rintro e w2 ⟨rfl, hb2⟩)
      | (go_at_call 47; refine (H4.out _).mono ?_; rintro e w2 ⟨rfl, hb2⟩))
            go_roundw
            case rel => exact ⟨k + 1, by omega, by go_num, HN.out, (HBEL.out.alloc hsz _).trans (hb2.mono (by simp; omega))⟩
            case measure => simp [intOf]; omega
        · cases t4 with
          | false =>
            obtain rfl : r = false := by rw [HSTEP.out, HOK.out]; simp [hk9]
            go_wp2_with (first
      | (go_at_call 44; refine (H1.out _).mono ?_; rintro e w1 ⟨rfl, rfl⟩)
      | (go_at_call 45; refine (H2.out _).mono ?_; rintro e w1 ⟨rfl, rfl⟩)
      | (go_at_call 46; refine (H3.out _).mono ?_; rintro e w2 ⟨rfl, hb2⟩)
      | (go_at_call 47; refine (H4.out _).mono ?_; rintro e w2 ⟨rfl, hb2⟩))
            go_ret
            exact ⟨rfl, (HBEL.out.alloc hsz _).trans (hb2.mono (by simp; omega))⟩
          | true =>
            have HN : Hid (allOk (k + 1) (zs.drop (k + 1)) = r) := Lib.hid (by rw [HSTEP.out, HOK.out]; simp [hk9])
            go_wp2_with (first
      | (go_at_call 44; refine (H1.out _).mono ?_; rintro e w1 ⟨rfl, rfl⟩)
      | (go_at_call 45; refine (H2.out _).mono ?_; rintro e w1 ⟨rfl, rfl⟩)
      | (go_at_call 46; refine (H3.out _).mono ?_; rintro e w2 ⟨rfl, hb2⟩)
      | (go_at_call 47; refine (H4.out _).mono ?_; rintro e w2 ⟨rfl, hb2⟩))
            go_roundw
            case rel => exact ⟨k + 1, by omega, by go_num, HN.out, (HBEL.out.alloc hsz _).trans (hb2.mono (by simp; omega))⟩
            case measure => simp [intOf]; omega
  · obtain rfl : k = n := by omega
    obtain rfl : r = true := by rw [← HREST.out]; exact allOk_end zs k k (by rw [HL.out]; omega)
    go_wp2
    go_ret
    exact ⟨rfl, HBEL.out⟩
end Go.Proofs.YteifgmdaggiaaaaGreatDoor
