/-
  chart.Of and Number by their contracts.
-/
import Derived.Test.YtbneohglblkmeaaDoorChartWords
namespace Go.Proofs.YtbneohglblkmeaaDoor
open Go Go.RowKit
set_option linter.unusedVariables false

theorem of_none (A : Option Addr) (n cap : Nat) (k : Int) (w : World) (h : ¬ (0 ≤ k ∧ k < (n : Int))) :
    Calls Tryd.prog 44 #[.slice A n cap, .int .i64 k] w fun e w' => e = .returned (.tuple #[.int .i64 0, .bool false]) ∧ w = w' := by
  by_cases h1 : k < 0
  · clear h
    go_enter Tryd.func44, Tryd.ntmps44
    go_wp2
    go_ret2
    exact ⟨rfl, rfl⟩
  · have h2 : (n : Int) ≤ k := by omega
    clear h
    go_enter Tryd.func44, Tryd.ntmps44
    go_wp2
    go_ret2
    exact ⟨rfl, rfl⟩
theorem of_client (A : Option Addr) (n cap : Nat) (k : Int) (w : World) (h : 9 ≤ k) (hn : k < (n : Int)) :
    Calls Tryd.prog 44 #[.slice A n cap, .int .i64 k] w fun e w' => e = .returned (.tuple #[.int .i64 3, .bool true]) ∧ w = w' := by
  go_enter Tryd.func44, Tryd.ntmps44
  go_wp2
  go_ret2
  exact ⟨rfl, rfl⟩
theorem of_house (A : Option Addr) (n cap : Nat) (k : Int) (w : World) (h0 : 0 ≤ k) (h9 : k < 9) (hn : k < (n : Int)) :
    Calls Tryd.prog 44 #[.slice A n cap, .int .i64 k] w fun e w' => e = .returned (.tuple #[.int .i64 (k % 3), .bool true]) ∧ w = w' := by
  have e0 : k.tmod 3 = k % 3 := Int.tmod_eq_emod_of_nonneg h0
  go_enter Tryd.func44, Tryd.ntmps44
  go_wp2
  go_ret2
  exact ⟨rfl, rfl⟩

theorem number_none (k c : Int) (w : World) (h : ¬ (0 ≤ k ∧ k < 3 ∧ 0 ≤ c ∧ c < 3)) :
    Calls Tryd.prog 32 #[.int .i64 k, .int .i64 c] w fun e w' => e = .returned (.int .i64 (-1)) ∧ w = w' := by
  have HC := Lib.hid (fun W => isCur_any c W)
  by_cases h1 : k < 0
  · clear h
    go_enter Tryd.func32, Tryd.ntmps32
    go_wp2
    go_ret
    exact ⟨rfl, rfl⟩
  · by_cases h2 : 3 ≤ k
    · clear h
      go_enter Tryd.func32, Tryd.ntmps32
      go_wp2
      go_ret
      exact ⟨rfl, rfl⟩
    · have e : decide (0 ≤ c ∧ c < 3) = false := decide_eq_false (by omega)
      rw [e] at HC
      clear h e
      go_enter Tryd.func32, Tryd.ntmps32
      go_wp2_with (first | (go_at_call 33; refine (HC.out _).mono ?_; rintro e w1 ⟨rfl, rfl⟩))
      go_ret
      exact ⟨rfl, rfl⟩
theorem number_some (k c : Int) (w : World) (k0 : 0 ≤ k) (k3 : k < 3) (c0 : 0 ≤ c) (c3 : c < 3) :
    Calls Tryd.prog 32 #[.int .i64 k, .int .i64 c] w fun e w' => e = .returned (.int .i64 (c * 3 + k)) ∧ w = w' := by
  have HC := Lib.hid (fun W => isCur_any c W)
  rw [decide_eq_true (p := 0 ≤ c ∧ c < 3) ⟨c0, c3⟩] at HC
  go_enter Tryd.func32, Tryd.ntmps32
  go_wp2_with (first | (go_at_call 33; refine (HC.out _).mono ?_; rintro e w1 ⟨rfl, rfl⟩))
  go_ret
  exact ⟨rfl, rfl⟩
end Go.Proofs.YtbneohglblkmeaaDoor
