/-
  The small functions of request by their contracts: isFrom, mayLegs, mayOp, May, Long; money.Amount.
-/
import Derived.Test.YtjphkpohcgkcmaaGreatDoorGrA
import Derived.Test.YtjphkpohcgkcmaaGreatDoorGrB
import Derived.WalkKit
import Derived.Lib.Hide
namespace Go.Proofs.YtjphkpohcgkcmaaGreatDoor
open Go Go.RowKit
set_option linter.unusedVariables false

theorem ramount_any (n : Int) (w : World) : Calls Tryz.prog 68 #[.int .i64 n] w fun e w' => e = .returned (.bool (decide (1 ≤ n ∧ n ≤ 1099511627776))) ∧ w = w' := by
  by_cases h1 : 1 ≤ n
  · by_cases h2 : n ≤ 1099511627776
    · rw [show decide (1 ≤ n ∧ n ≤ 1099511627776) = true from decide_eq_true ⟨h1, h2⟩]
      go_enter Tryz.func68, Tryz.ntmps68
      go_wp2
      go_ret
      exact ⟨rfl, rfl⟩
    · rw [show decide (1 ≤ n ∧ n ≤ 1099511627776) = false from decide_eq_false fun h => h2 h.2]
      go_enter Tryz.func68, Tryz.ntmps68
      go_wp2
      go_ret
      exact ⟨rfl, rfl⟩
  · rw [show decide (1 ≤ n ∧ n ≤ 1099511627776) = false from decide_eq_false fun h => h1 h.1]
    go_enter Tryz.func68, Tryz.ntmps68
    go_wp2
    go_ret
    exact ⟨rfl, rfl⟩
theorem ramount_is (b : Bool) (x : Int) (w : World) (h : b = decide (1 ≤ x ∧ x ≤ 1099511627776)) : Calls Tryz.prog 68 #[.int .i64 x] w fun e w' => e = .returned (.bool b) ∧ w = w' := by
  subst h
  exact ramount_any x w

theorem isFrom_any (l n g : Int) (w : World) : Calls Tryz.prog 51 #[.int .i64 l, .int .i64 n, .int .i64 g] w fun e w' => e = .returned (.bool (decide (l ≤ n ∧ n ≤ g))) ∧ w = w' := by
  by_cases h1 : l ≤ n
  · by_cases h2 : n ≤ g
    · rw [show decide (l ≤ n ∧ n ≤ g) = true from decide_eq_true ⟨h1, h2⟩]
      go_enter Tryz.func51, Tryz.ntmps51
      go_wp2
      go_ret
      exact ⟨rfl, rfl⟩
    · rw [show decide (l ≤ n ∧ n ≤ g) = false from decide_eq_false fun h => h2 h.2]
      go_enter Tryz.func51, Tryz.ntmps51
      go_wp2
      go_ret
      exact ⟨rfl, rfl⟩
  · rw [show decide (l ≤ n ∧ n ≤ g) = false from decide_eq_false fun h => h1 h.1]
    go_enter Tryz.func51, Tryz.ntmps51
    go_wp2
    go_ret
    exact ⟨rfl, rfl⟩
theorem isFrom_is (b : Bool) (l n g : Int) (w : World) (h : b = decide (l ≤ n ∧ n ≤ g)) : Calls Tryz.prog 51 #[.int .i64 l, .int .i64 n, .int .i64 g] w fun e w' => e = .returned (.bool b) ∧ w = w' := by
  subst h
  exact isFrom_any l n g w

set_option maxRecDepth 100000 in
theorem mayLegs_any (r : Rq) (w : World) : Calls Tryz.prog 52 #[r.val] w (BoolRes w (decide (legsOk r))) := by
  obtain ⟨key, op, a, b, amt, legs, til⟩ := r
  unfold Rq.val legsOk
  dsimp only
  by_cases h2 : op = 2
  · have q2 := eqT h2
    rw [show decide (if op = 2 then 0 ≤ legs ∧ legs ≤ 4 else legs = 0) = decide (0 ≤ legs ∧ legs ≤ 4) from by simp [h2]]
    obtain ⟨t, ht⟩ : ∃ t, t = decide (0 ≤ legs ∧ legs ≤ 4) := ⟨_, rfl⟩
    rw [← ht]
    have HF := Lib.hid (fun W => isFrom_is t 0 legs 4 W ht)
    clear ht h2
    go_enter Tryz.func52, Tryz.ntmps52
    go_wp2_with (first | (go_at_call 51; refine (HF.out _).mono ?_; rintro e w1 ⟨rfl, rfl⟩))
    go_ret
    exact ⟨rfl, (Below.refl _ _).alloc (Nat.le_refl _) _⟩
  · have q2 := eqF h2
    rw [show decide (if op = 2 then 0 ≤ legs ∧ legs ≤ 4 else legs = 0) = decide (legs = 0) from by simp [h2]]
    by_cases h0 : legs = 0
    · have q0 := eqT h0
      rw [decide_eq_true h0]
      clear h2 h0
      go_enter Tryz.func52, Tryz.ntmps52
      go_wp2
      go_ret
      exact ⟨rfl, (Below.refl _ _).alloc (Nat.le_refl _) _⟩
    · have q0 := eqF h0
      rw [decide_eq_false h0]
      clear h2 h0
      go_enter Tryz.func52, Tryz.ntmps52
      go_wp2
      go_ret
      exact ⟨rfl, (Below.refl _ _).alloc (Nat.le_refl _) _⟩

set_option maxRecDepth 100000 in
theorem mayOp_any (r : Rq) (w : World) : Calls Tryz.prog 53 #[r.val] w (BoolRes w (decide (opOk r))) := by
  obtain ⟨key, op, a, b, amt, legs, til⟩ := r
  unfold Rq.val opOk
  dsimp only
  by_cases h0 : op = 0
  · rw [show decide (if op = 0 then 0 ≤ a ∧ a ≤ 2 else op = 5 ∨ (0 < op ∧ op < 8 ∧ 1 ≤ amt ∧ amt ≤ 1099511627776)) = decide (0 ≤ a ∧ a ≤ 2) from by simp [h0]]
    obtain ⟨t, ht⟩ : ∃ t, t = decide (0 ≤ a ∧ a ≤ 2) := ⟨_, rfl⟩
    rw [← ht]
    have HF := Lib.hid (fun W => isFrom_is t 0 a 2 W ht)
    have q0 := eqT h0
    clear ht h0
    go_enter Tryz.func53, Tryz.ntmps53
    go_wp2_with (first | (go_at_call 51; refine (HF.out _).mono ?_; rintro e w1 ⟨rfl, rfl⟩))
    go_ret
    exact ⟨rfl, (Below.refl _ _).alloc (Nat.le_refl _) _⟩
  · have q0 := eqF h0
    by_cases h5 : op = 5
    · rw [show decide (if op = 0 then 0 ≤ a ∧ a ≤ 2 else op = 5 ∨ (0 < op ∧ op < 8 ∧ 1 ≤ amt ∧ amt ≤ 1099511627776)) = true from by simp [h5]]
      have q5 := eqT h5
      clear h0 h5
      go_enter Tryz.func53, Tryz.ntmps53
      go_wp2
      go_ret
      exact ⟨rfl, (Below.refl _ _).alloc (Nat.le_refl _) _⟩
    · have q5 := eqF h5
      by_cases hop : 0 < op ∧ op < 8
      · rw [show decide (if op = 0 then 0 ≤ a ∧ a ≤ 2 else op = 5 ∨ (0 < op ∧ op < 8 ∧ 1 ≤ amt ∧ amt ≤ 1099511627776)) = decide (1 ≤ amt ∧ amt ≤ 1099511627776) from by simp [h0, h5, hop.1, hop.2]]
        obtain ⟨t, ht⟩ : ∃ t, t = decide (1 ≤ amt ∧ amt ≤ 1099511627776) := ⟨_, rfl⟩
        rw [← ht]
        have HF := Lib.hid (fun W => ramount_is t amt W ht)
        clear ht q0 q5
        rcases (show op = 1 ∨ op = 2 ∨ op = 3 ∨ op = 4 ∨ op = 6 ∨ op = 7 by omega) with rfl | rfl | rfl | rfl | rfl | rfl
        all_goals
          clear h0 h5 hop
          go_enter Tryz.func53, Tryz.ntmps53
          go_wp2_with (first | (go_at_call 68; refine (HF.out _).mono ?_; rintro e w1 ⟨rfl, rfl⟩))
          go_ret
          exact ⟨rfl, (Below.refl _ _).alloc (Nat.le_refl _) _⟩
      · rw [show decide (if op = 0 then 0 ≤ a ∧ a ≤ 2 else op = 5 ∨ (0 < op ∧ op < 8 ∧ 1 ≤ amt ∧ amt ≤ 1099511627776)) = false from decide_eq_false (by rw [if_neg h0]; omega)]
        have q1 := eqF (show ¬ op = 1 by omega)
        have q2 := eqF (show ¬ op = 2 by omega)
        have q3 := eqF (show ¬ op = 3 by omega)
        have q4 := eqF (show ¬ op = 4 by omega)
        have q6 := eqF (show ¬ op = 6 by omega)
        have q7 := eqF (show ¬ op = 7 by omega)
        clear h0 h5 hop
        go_enter Tryz.func53, Tryz.ntmps53
        go_wp2
        go_ret
        exact ⟨rfl, (Below.refl _ _).alloc (Nat.le_refl _) _⟩

set_option maxRecDepth 100000 in
theorem long_any (r : Rq) (w : World) : Calls Tryz.prog 56 #[r.val] w (BoolRes w (decide (r.op = 2 ∧ 0 < r.legs))) := by
  obtain ⟨key, op, a, b, amt, legs, til⟩ := r
  unfold Rq.val
  dsimp only
  by_cases h2 : op = 2
  · have q2 := eqT h2
    by_cases h0 : 0 < legs
    · rw [decide_eq_true ⟨h2, h0⟩]
      clear h2
      go_enter Tryz.func56, Tryz.ntmps56
      go_wp2
      go_ret
      exact ⟨rfl, (Below.refl _ _).alloc (Nat.le_refl _) _⟩
    · rw [decide_eq_false fun h : op = 2 ∧ 0 < legs => h0 h.2]
      clear h2
      go_enter Tryz.func56, Tryz.ntmps56
      go_wp2
      go_ret
      exact ⟨rfl, (Below.refl _ _).alloc (Nat.le_refl _) _⟩
  · have q2 := eqF h2
    rw [decide_eq_false fun h : op = 2 ∧ 0 < legs => h2 h.1]
    clear h2
    go_enter Tryz.func56, Tryz.ntmps56
    go_wp2
    go_ret
    exact ⟨rfl, (Below.refl _ _).alloc (Nat.le_refl _) _⟩
end Go.Proofs.YtjphkpohcgkcmaaGreatDoor
