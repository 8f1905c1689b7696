/-
  chart.IsClient by its contract.
-/
import Derived.Test.YtbneohglblkmeaaDoorChartOf
namespace Go.Proofs.YtbneohglblkmeaaDoor
open Go Go.RowKit
set_option linter.unusedVariables false

theorem isClient_none (A : Option Addr) (n cap : Nat) (k : Int) (w : World) (h : ¬ (0 ≤ k ∧ k < (n : Int))) :
    Calls Tryd.prog 39 #[.slice A n cap, .int .i64 k] w fun e w' => e = .returned (.bool false) ∧ w = w' := by
  have H := Lib.hid h
  clear h
  go_enter Tryd.func39, Tryd.ntmps39
  go_wp2_with (first | (go_at_call 44; refine (of_none A n cap k _ H.out).mono ?_; rintro e w1 ⟨rfl, rfl⟩))
  go_ret
  exact ⟨rfl, rfl⟩
theorem isClient_client (A : Option Addr) (n cap : Nat) (k : Int) (w : World) (h : 9 ≤ k) (hn : k < (n : Int)) :
    Calls Tryd.prog 39 #[.slice A n cap, .int .i64 k] w fun e w' => e = .returned (.bool true) ∧ w = w' := by
  go_enter Tryd.func39, Tryd.ntmps39
  go_wp2_with (first | (go_at_call 44; refine (of_client A n cap k _ h hn).mono ?_; rintro e w1 ⟨rfl, rfl⟩))
  go_ret
  exact ⟨rfl, rfl⟩
theorem isClient_house (A : Option Addr) (n cap : Nat) (k : Int) (w : World) (h0 : 0 ≤ k) (h9 : k < 9) (hn : k < (n : Int)) :
    Calls Tryd.prog 39 #[.slice A n cap, .int .i64 k] w fun e w' => e = .returned (.bool false) ∧ w = w' := by
  obtain ⟨q, hq⟩ : ∃ q, k % 3 = q := ⟨_, rfl⟩
  have H := Lib.hid (fun W => of_house A n cap k W h0 h9 hn)
  rw [hq] at H
  have hq3 : (q == 3) = false := by simp; omega
  clear hq
  go_enter Tryd.func39, Tryd.ntmps39
  go_wp2_with (first | (go_at_call 44; refine (H.out _).mono ?_; rintro e w1 ⟨rfl, rfl⟩))
  go_ret
  exact ⟨rfl, rfl⟩
end Go.Proofs.YtbneohglblkmeaaDoor
