/-
  The law's own right by its contract: it tells whether accounts are right.
-/
import Derived.Test.YtpcpocgagfpbhaaChartRight
namespace Go.Proofs.Ytpcpocgagfpbhaa
open Go Go.RowKit
set_option linter.unusedVariables false


set_option maxRecDepth 100000 in
set_option maxHeartbeats 4000000 in
theorem right_law (A : Option Addr) (n cap : Nat) (zs : List Ac) (w : World) (hl : zs.length = n) (hr : RdA w A zs) (hn : n ≤ 9223372036854775807) :
    Calls Try.prog 12 #[.slice A n cap] w fun e w' => e = .returned (.bool (rightB zs)) ∧ Below w.heap.size w w' := by
  have HR := Lib.hid hr
  have HL := Lib.hid hl
  obtain ⟨r, hres⟩ : ∃ r, rightB zs = r := ⟨_, rfl⟩
  rw [hres]
  have HRES := Lib.hid hres
  clear hr hl hres
  by_cases h9 : n < 9
  · obtain rfl : r = false := by rw [← HRES.out]; exact rightB_short (by rw [HL.out]; omega)
    go_enter Try.func12, Try.ntmps12
    go_wp2
    go_ret
    exact ⟨rfl, Below.refl _ _⟩
  by_cases h64 : 64 < n
  · obtain rfl : r = false := by rw [← HRES.out]; exact rightB_short (by rw [HL.out]; omega)
    go_enter Try.func12, Try.ntmps12
    go_wp2
    go_ret
    exact ⟨rfl, Below.refl _ _⟩
  have hmid : allOk 0 zs = r := by rw [← HRES.out]; exact (rightB_mid (by rw [HL.out]; omega)).symm
  have HMID := Lib.hid hmid
  clear hmid
  go_enter Try.func12, Try.ntmps12
  go_wp2
  go_loopw [15] (fun i wr => ∃ k : Nat, k ≤ n ∧ i = .int .i64 (k : Int) ∧ allOk k (zs.drop k) = r ∧ Below w.heap.size w wr) (fun i _ => n - (intOf i).toNat)
  case atStart => exact ⟨0, Nat.zero_le _, rfl, HMID.out, Below.refl _ _⟩
  case round =>
    obtain ⟨k, hk, rfl, hrest, hbel⟩ := hrel
    have HREST := Lib.hid hrest
    have HBEL := Lib.hid hbel
    have hsz := hbel.size
    clear hrest hbel
    by_cases hlt : k < n
    · obtain ⟨a, ha⟩ : ∃ a, zs[k]? = some a := ⟨_, List.getElem?_eq_getElem (by rw [HL.out]; exact hlt)⟩
      obtain ⟨ad, rfl, hat⟩ := (HR.out.below HBEL.out).at_ ha
      have hstep := allOk_drop zs k k a ha
      rw [HREST.out] at hstep
      have HSTEP := Lib.hid hstep
      obtain ⟨c0, c1, c2⟩ := hat
      rw [add_next ad (k * 3) 1 (by omega)] at c1
      rw [add_next ad (k * 3) 2 (by omega)] at c2
      clear ha hstep HREST
      obtain ⟨c, b, l⟩ := a
      simp only at c0 c1 c2
      have HOK : Hid (okAt k ⟨c, b, l⟩ = (decide (0 ≤ c ∧ c < 3) && decide (-1125899906842624 ≤ b ∧ b ≤ 1125899906842624) && if k < 9 then decide (l = 0 ∧ c = (k : Int) / 3) else decide (0 ≤ l ∧ l ≤ b))) := Lib.hid rfl
      by_cases e1 : c < 0
      · obtain rfl : r = false := by rw [HSTEP.out, HOK.out]; rw [show decide (0 ≤ c ∧ c < 3) = false from decide_eq_false (by omega)]; rfl
        go_wp2
        go_ret
        exact ⟨rfl, HBEL.out.alloc hsz _⟩
      by_cases e2 : 2 < c
      · obtain rfl : r = false := by rw [HSTEP.out, HOK.out]; rw [show decide (0 ≤ c ∧ c < 3) = false from decide_eq_false (by omega)]; rfl
        go_wp2
        go_ret
        exact ⟨rfl, HBEL.out.alloc hsz _⟩
      by_cases e3 : b < -1125899906842624
      · obtain rfl : r = false := by rw [HSTEP.out, HOK.out]; rw [show decide (-1125899906842624 ≤ b ∧ b ≤ 1125899906842624) = false from decide_eq_false (by omega), Bool.and_false]; rfl
        go_wp2
        go_ret
        exact ⟨rfl, HBEL.out.alloc hsz _⟩
      by_cases e4 : 1125899906842624 < b
      · obtain rfl : r = false := by rw [HSTEP.out, HOK.out]; rw [show decide (-1125899906842624 ≤ b ∧ b ≤ 1125899906842624) = false from decide_eq_false (by omega), Bool.and_false]; rfl
        go_wp2
        go_ret
        exact ⟨rfl, HBEL.out.alloc hsz _⟩
      by_cases hk9 : k < 9
      · obtain ⟨q, hq⟩ : ∃ q : Int, (k : Int) / 3 = q := ⟨_, rfl⟩
        by_cases e5 : l = 0
        · by_cases e6 : c = q
          · have HN : Hid (allOk (k + 1) (zs.drop (k + 1)) = r) := Lib.hid (by rw [HSTEP.out, HOK.out, if_pos hk9, decide_eq_true (by omega), decide_eq_true (by omega), decide_eq_true (by omega)]; rfl)
            subst e5 e6
            go_wp2
            go_roundw
            case rel => exact ⟨k + 1, by omega, by go_num, HN.out, HBEL.out.alloc hsz _⟩
            case measure => simp [intOf]; omega
          · obtain rfl : r = false := by rw [HSTEP.out, HOK.out]; rw [if_pos hk9, show decide (l = 0 ∧ c = (k : Int) / 3) = false from decide_eq_false (by omega), Bool.and_false]; rfl
            have e7 : (c != q) = true := by simpa using e6
            subst e5
            go_wp2
            go_ret
            exact ⟨rfl, HBEL.out.alloc hsz _⟩
        · obtain rfl : r = false := by rw [HSTEP.out, HOK.out]; rw [if_pos hk9, show decide (l = 0 ∧ c = (k : Int) / 3) = false from decide_eq_false (by omega), Bool.and_false]; rfl
          have e7 : (l != 0) = true := by simpa using e5
          go_wp2
          go_ret
          exact ⟨rfl, HBEL.out.alloc hsz _⟩
      by_cases e5 : l < 0
      · obtain rfl : r = false := by rw [HSTEP.out, HOK.out]; rw [if_neg hk9, show decide (0 ≤ l ∧ l ≤ b) = false from decide_eq_false (by omega), Bool.and_false]; rfl
        go_wp2
        go_ret
        exact ⟨rfl, HBEL.out.alloc hsz _⟩
      by_cases e6 : b < l
      · obtain rfl : r = false := by rw [HSTEP.out, HOK.out]; rw [if_neg hk9, show decide (0 ≤ l ∧ l ≤ b) = false from decide_eq_false (by omega), Bool.and_false]; rfl
        go_wp2
        go_ret
        exact ⟨rfl, HBEL.out.alloc hsz _⟩
      have HN : Hid (allOk (k + 1) (zs.drop (k + 1)) = r) := Lib.hid (by rw [HSTEP.out, HOK.out, if_neg hk9, decide_eq_true (by omega), decide_eq_true (by omega), decide_eq_true (by omega)]; rfl)
      go_wp2
      go_roundw
      case rel => exact ⟨k + 1, by omega, by go_num, HN.out, HBEL.out.alloc hsz _⟩
      case measure => simp [intOf]; omega
    · obtain rfl : k = n := by omega
      obtain rfl : r = true := by rw [← HREST.out]; exact allOk_end zs k k (by rw [HL.out]; omega)
      go_wp2
      go_ret
      exact ⟨rfl, HBEL.out⟩
end Go.Proofs.Ytpcpocgagfpbhaa
