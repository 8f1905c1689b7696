/-
  The small functions of entry by their contracts: exists, isCurrency, convert.
-/
import Derived.Test.YtbneohglblkmeaaDoorEntPlain
import Derived.Test.YtbneohglblkmeaaDoorChartOf
import Derived.Test.YtbneohglblkmeaaDoorMoneyMay
import Derived.Test.YtbneohglblkmeaaDoorRates
namespace Go.Proofs.YtbneohglblkmeaaDoor
open Go Go.RowKit
set_option linter.unusedVariables false

theorem exists_any (A : Option Addr) (n cap : Nat) (k : Int) (w : World) :
    Calls Tryd.prog 29 #[.slice A n cap, .int .i64 k] w fun e w' => e = .returned (.bool (decide (0 ≤ k ∧ k < (n : Int)))) ∧ w = w' := by
  by_cases h : 0 ≤ k ∧ k < (n : Int)
  · rw [decide_eq_true h]
    by_cases h9 : k < 9
    · have H := Lib.hid (fun W => of_house A n cap k W h.1 h9 h.2)
      clear h
      go_enter Tryd.func29, Tryd.ntmps29
      go_wp2_with (first | (go_at_call 44; refine (H.out _).mono ?_; rintro e w1 ⟨rfl, rfl⟩))
      go_ret
      exact ⟨rfl, rfl⟩
    · have H := Lib.hid (fun W => of_client A n cap k W (by omega) h.2)
      clear h
      go_enter Tryd.func29, Tryd.ntmps29
      go_wp2_with (first | (go_at_call 44; refine (H.out _).mono ?_; rintro e w1 ⟨rfl, rfl⟩))
      go_ret
      exact ⟨rfl, rfl⟩
  · rw [decide_eq_false h]
    have H := Lib.hid (fun W => of_none A n cap k W h)
    clear h
    go_enter Tryd.func29, Tryd.ntmps29
    go_wp2_with (first | (go_at_call 44; refine (H.out _).mono ?_; rintro e w1 ⟨rfl, rfl⟩))
    go_ret
    exact ⟨rfl, rfl⟩

theorem exists_yes (A : Option Addr) (n cap : Nat) (k : Int) (w : World) (h : 0 ≤ k ∧ k < (n : Int)) :
    Calls Tryd.prog 29 #[.slice A n cap, .int .i64 k] w fun e w' => e = .returned (.bool true) ∧ w = w' := by
  have := exists_any A n cap k w
  rw [decide_eq_true h] at this
  exact this
theorem exists_no (A : Option Addr) (n cap : Nat) (k : Int) (w : World) (h : ¬ (0 ≤ k ∧ k < (n : Int))) :
    Calls Tryd.prog 29 #[.slice A n cap, .int .i64 k] w fun e w' => e = .returned (.bool false) ∧ w = w' := by
  have := exists_any A n cap k w
  rw [decide_eq_false h] at this
  exact this
theorem exch_any (a : Int) (w : World) (h : 0 ≤ a ∧ a < 3) :
    Calls Tryd.prog 32 #[.int .i64 1, .int .i64 a] w fun e w' => e = .returned (.int .i64 (exch a)) ∧ w = w' := by
  have := number_some 1 a w (by omega) (by omega) h.1 h.2
  rw [show a * 3 + 1 = exch a by unfold exch; omega] at this
  exact this

theorem entCur_any (c : Int) (w : World) : Calls Tryd.prog 38 #[.int .i64 c] w fun e w' => e = .returned (.bool (decide (0 ≤ c ∧ c < 3))) ∧ w = w' := by
  by_cases h1 : 0 ≤ c
  · by_cases h2 : c < 3
    · have e : decide (0 ≤ c ∧ c < 3) = true := decide_eq_true ⟨h1, h2⟩
      rw [e]
      clear e
      go_enter Tryd.func38, Tryd.ntmps38
      go_wp2
      go_ret
      exact ⟨rfl, rfl⟩
    · have e : decide (0 ≤ c ∧ c < 3) = false := decide_eq_false fun h => h2 h.2
      rw [e]
      clear e
      go_enter Tryd.func38, Tryd.ntmps38
      go_wp2
      go_ret
      exact ⟨rfl, rfl⟩
  · have e : decide (0 ≤ c ∧ c < 3) = false := decide_eq_false fun h => h1 h.1
    rw [e]
    clear e
    go_enter Tryd.func38, Tryd.ntmps38
    go_wp2
    go_ret
    exact ⟨rfl, rfl⟩

theorem entCur_yes (c : Int) (w : World) (h : 0 ≤ c ∧ c < 3) : Calls Tryd.prog 38 #[.int .i64 c] w fun e w' => e = .returned (.bool true) ∧ w = w' := by
  have := entCur_any c w
  rw [decide_eq_true h] at this
  exact this

/-- An error by its number; none, if that is 0. -/
def errV (n : Int) : Value := if n = 0 then .nilIface else eno n

/-- A row of the rates. -/
def rateRow (a : Int) : Array Value := if a = 0 then #[.int .i64 1, .int .i64 1, .int .i64 9, .int .i64 10, .int .i64 150, .int .i64 1] else if a = 1 then #[.int .i64 11, .int .i64 10, .int .i64 1, .int .i64 1, .int .i64 160, .int .i64 1] else #[.int .i64 1, .int .i64 151, .int .i64 1, .int .i64 161, .int .i64 1, .int .i64 1]
theorem ixs0 (w : World) : (Instr.index 97 (.agg ratesC) (.int .i64 0)).run Tryd.prog w = .ok (.agg #[.int .i64 1, .int .i64 1, .int .i64 9, .int .i64 10, .int .i64 150, .int .i64 1]) w := by kernel_rfl
theorem ixs1 (w : World) : (Instr.index 97 (.agg ratesC) (.int .i64 1)).run Tryd.prog w = .ok (.agg #[.int .i64 11, .int .i64 10, .int .i64 1, .int .i64 1, .int .i64 160, .int .i64 1]) w := by kernel_rfl
theorem ixs2 (w : World) : (Instr.index 97 (.agg ratesC) (.int .i64 2)).run Tryd.prog w = .ok (.agg #[.int .i64 1, .int .i64 151, .int .i64 1, .int .i64 161, .int .i64 1, .int .i64 1]) w := by kernel_rfl
theorem ixs00 (w : World) : (Instr.index 96 (.agg #[.int .i64 1, .int .i64 1, .int .i64 9, .int .i64 10, .int .i64 150, .int .i64 1]) (.int .i64 0)).run Tryd.prog w = .ok (.agg #[.int .i64 1, .int .i64 1]) w := by kernel_rfl
theorem ixs01 (w : World) : (Instr.index 96 (.agg #[.int .i64 1, .int .i64 1, .int .i64 9, .int .i64 10, .int .i64 150, .int .i64 1]) (.int .i64 1)).run Tryd.prog w = .ok (.agg #[.int .i64 9, .int .i64 10]) w := by kernel_rfl
theorem ixs02 (w : World) : (Instr.index 96 (.agg #[.int .i64 1, .int .i64 1, .int .i64 9, .int .i64 10, .int .i64 150, .int .i64 1]) (.int .i64 2)).run Tryd.prog w = .ok (.agg #[.int .i64 150, .int .i64 1]) w := by kernel_rfl
theorem ixs10 (w : World) : (Instr.index 96 (.agg #[.int .i64 11, .int .i64 10, .int .i64 1, .int .i64 1, .int .i64 160, .int .i64 1]) (.int .i64 0)).run Tryd.prog w = .ok (.agg #[.int .i64 11, .int .i64 10]) w := by kernel_rfl
theorem ixs11 (w : World) : (Instr.index 96 (.agg #[.int .i64 11, .int .i64 10, .int .i64 1, .int .i64 1, .int .i64 160, .int .i64 1]) (.int .i64 1)).run Tryd.prog w = .ok (.agg #[.int .i64 1, .int .i64 1]) w := by kernel_rfl
theorem ixs12 (w : World) : (Instr.index 96 (.agg #[.int .i64 11, .int .i64 10, .int .i64 1, .int .i64 1, .int .i64 160, .int .i64 1]) (.int .i64 2)).run Tryd.prog w = .ok (.agg #[.int .i64 160, .int .i64 1]) w := by kernel_rfl
theorem ixs20 (w : World) : (Instr.index 96 (.agg #[.int .i64 1, .int .i64 151, .int .i64 1, .int .i64 161, .int .i64 1, .int .i64 1]) (.int .i64 0)).run Tryd.prog w = .ok (.agg #[.int .i64 1, .int .i64 151]) w := by kernel_rfl
theorem ixs21 (w : World) : (Instr.index 96 (.agg #[.int .i64 1, .int .i64 151, .int .i64 1, .int .i64 161, .int .i64 1, .int .i64 1]) (.int .i64 1)).run Tryd.prog w = .ok (.agg #[.int .i64 1, .int .i64 161]) w := by kernel_rfl
theorem ixs22 (w : World) : (Instr.index 96 (.agg #[.int .i64 1, .int .i64 151, .int .i64 1, .int .i64 161, .int .i64 1, .int .i64 1]) (.int .i64 2)).run Tryd.prog w = .ok (.agg #[.int .i64 1, .int .i64 1]) w := by kernel_rfl
theorem row_ix {a : Int} (ha : 0 ≤ a ∧ a < 3) (W : World) : (Instr.index 97 (.agg ratesC) (.int .i64 a)).run Tryd.prog W = .ok (.agg (rateRow a)) W := by
  have h1 : a = 0 ∨ a = 1 ∨ a = 2 := by omega
  rcases h1 with rfl | rfl | rfl
  · exact ixs0 W
  · exact ixs1 W
  · exact ixs2 W
theorem rate_ix {a b : Int} (ha : 0 ≤ a ∧ a < 3) (hb : 0 ≤ b ∧ b < 3) (W : World) : (Instr.index 96 (.agg (rateRow a)) (.int .i64 b)).run Tryd.prog W = .ok (.agg #[.int .i64 (rateN a b), .int .i64 (rateD a b)]) W := by
  have h1 : a = 0 ∨ a = 1 ∨ a = 2 := by omega
  have h2 : b = 0 ∨ b = 1 ∨ b = 2 := by omega
  rcases h1 with rfl | rfl | rfl <;> rcases h2 with rfl | rfl | rfl
  · exact ixs00 W
  · exact ixs01 W
  · exact ixs02 W
  · exact ixs10 W
  · exact ixs11 W
  · exact ixs12 W
  · exact ixs20 W
  · exact ixs21 W
  · exact ixs22 W

set_option maxHeartbeats 4000000 in
theorem convert_any (a b n : Int) (w : World) (ha : 0 ≤ a ∧ a < 3) (hb : 0 ≤ b ∧ b < 3) (n1 : 1 ≤ n) (n2 : n ≤ 1099511627776) :
    Calls Tryd.prog 31 #[.int .i64 a, .int .i64 b, .int .i64 n] w fun e w' => e = .returned (.tuple #[.int .i64 (if convE a b n = 0 then conv a b n else 0), errV (convE a b n)]) ∧ Below w.heap.size w w' := by
  have hix1 := row_ix ha
  have hix2 := rate_ix ha hb
  obtain ⟨p1, p2, q1, q2⟩ := rate_ok ha hb
  obtain ⟨a0, a1⟩ := ha
  obtain ⟨b0, b1⟩ := hb
  have hcv : conv a b n = n * rateN a b / rateD a b := rfl
  have hce : convE a b n = if 1099511627776 < conv a b n then 4 else if conv a b n = 0 then 1 else 0 := rfl
  obtain ⟨p, hp⟩ : ∃ p, rateN a b = p := ⟨_, rfl⟩
  obtain ⟨q, hq⟩ : ∃ q, rateD a b = q := ⟨_, rfl⟩
  obtain ⟨c, hc⟩ : ∃ c, conv a b n = c := ⟨_, rfl⟩
  obtain ⟨x, hx⟩ : ∃ x, convE a b n = x := ⟨_, rfl⟩
  obtain ⟨R, hR⟩ : ∃ R, rateRow a = R := ⟨_, rfl⟩
  rw [hx, hc] at hce
  rw [hc, hp, hq] at hcv
  rw [hp, hq, hR] at hix2
  rw [hR] at hix1
  rw [hp] at p1 p2
  rw [hq] at q1 q2
  rw [hx, hc]
  obtain ⟨m1, m2⟩ := mul_bounds n p n1 n2 p1 p2
  have hc0 : 0 ≤ c := by rw [hcv]; exact (div_facts (n * p) q m1 q1).2.2.2.2.2
  clear hp hq hc hx hR
  by_cases h1 : 1099511627776 < c
  · rw [if_pos h1] at hce
    subst hce
    have HC := Lib.hid (fun W => conv_over n p q W n1 n2 p1 p2 q1 q2 m1 m2 (by rw [← hcv]; exact h1))
    clear hcv m1 m2 h1
    go_enter Tryd.func31, Tryd.ntmps31
    go_wp2_with (first
      | (go_at_call 38; refine (entCur_yes _ _ (by omega)).mono ?_; rintro e w1 ⟨rfl, rfl⟩)
      | (go_at_call 46; refine (rates_ret _).mono ?_; rintro e w1 ⟨rfl, rfl⟩)
      | (go_at_call 45; refine (HC.out _).mono ?_; rintro e w2 ⟨rfl, hb2⟩))
    go_ret2
    exact ⟨rfl, ((Below.refl _ _).alloc (Nat.le_refl _) _).trans (hb2.mono (by simp))⟩
  · rw [if_neg h1] at hce
    have HC := Lib.hid (fun W => conv_ok n p q W n1 n2 p1 p2 q1 q2 m1 m2 (by rw [← hcv]; omega))
    rw [← hcv] at HC
    obtain ⟨d, hd⟩ : ∃ d, n * p % q = d := ⟨_, rfl⟩
    rw [hd] at HC
    clear hcv m1 m2 hd
    by_cases h0 : c = 0
    · rw [if_pos h0] at hce
      subst hce
      subst h0
      go_enter Tryd.func31, Tryd.ntmps31
      go_wp2_with (first
        | (go_at_call 38; refine (entCur_yes _ _ (by omega)).mono ?_; rintro e w1 ⟨rfl, rfl⟩)
        | (go_at_call 46; refine (rates_ret _).mono ?_; rintro e w1 ⟨rfl, rfl⟩)
        | (go_at_call 45; refine (HC.out _).mono ?_; rintro e w2 ⟨rfl, hb2⟩))
      go_ret2
      exact ⟨rfl, ((Below.refl _ _).alloc (Nat.le_refl _) _).trans (hb2.mono (by simp))⟩
    · rw [if_neg h0] at hce
      subst hce
      have f0 : (c == 0) = false := by simp [h0]
      go_enter Tryd.func31, Tryd.ntmps31
      go_wp2_with (first
        | (go_at_call 38; refine (entCur_yes _ _ (by omega)).mono ?_; rintro e w1 ⟨rfl, rfl⟩)
        | (go_at_call 46; refine (rates_ret _).mono ?_; rintro e w1 ⟨rfl, rfl⟩)
        | (go_at_call 45; refine (HC.out _).mono ?_; rintro e w2 ⟨rfl, hb2⟩))
      go_ret2
      exact ⟨rfl, ((Below.refl _ _).alloc (Nat.le_refl _) _).trans (hb2.mono (by simp))⟩
end Go.Proofs.YtbneohglblkmeaaDoor
