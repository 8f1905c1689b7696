/-
  The small functions of payment by their contracts: within, Left, Gave, excess, refusal.
-/
import Derived.Test.YtenghafnpmlbnaaDoorPay
import Derived.Test.YtenghafnpmlbnaaDoorErrV
import Derived.WalkKit
import Derived.Lib.Hide
namespace Go.Proofs.YtenghafnpmlbnaaDoor
open Go Go.RowKit
set_option linter.unusedVariables false

theorem pwithin_any (n l g : Int) (w : World) : Calls Tryd.prog 20 #[.int .i64 n, .int .i64 l, .int .i64 g] w fun e w' => e = .returned (.bool (decide (l ≤ n ∧ n ≤ g))) ∧ w = w' := by
  by_cases h1 : l ≤ n
  · by_cases h2 : n ≤ g
    · rw [show decide (l ≤ n ∧ n ≤ g) = true from decide_eq_true ⟨h1, h2⟩]
      go_enter Tryd.func20, Tryd.ntmps20
      go_wp2
      go_ret
      exact ⟨rfl, rfl⟩
    · rw [show decide (l ≤ n ∧ n ≤ g) = false from decide_eq_false fun h => h2 h.2]
      go_enter Tryd.func20, Tryd.ntmps20
      go_wp2
      go_ret
      exact ⟨rfl, rfl⟩
  · rw [show decide (l ≤ n ∧ n ≤ g) = false from decide_eq_false fun h => h1 h.1]
    go_enter Tryd.func20, Tryd.ntmps20
    go_wp2
    go_ret
    exact ⟨rfl, rfl⟩
theorem pwithin_is (b : Bool) (n l g : Int) (w : World) (h : b = decide (l ≤ n ∧ n ≤ g)) : Calls Tryd.prog 20 #[.int .i64 n, .int .i64 l, .int .i64 g] w fun e w' => e = .returned (.bool b) ∧ w = w' := by
  subst h
  exact pwithin_any n l g w

/-- An int, and nothing below is turned. -/
def IntRes (w : World) (x : Int) (e : Ending) (w' : World) : Prop := e = .returned (.int .i64 x) ∧ Below w.heap.size w w'
/-- An error by its number, and nothing below is turned. -/
def ErrRes (w : World) (n : Int) (e : Ending) (w' : World) : Prop := e = .returned (errV n) ∧ Below w.heap.size w w'

set_option maxRecDepth 100000 in
theorem left_any (p : Py) (w : World) : Calls Tryd.prog 16 #[p.val] w (IntRes w (leftP p)) := by
  obtain ⟨f, d, a, c, r, g, t, s⟩ := p
  unfold Py.val leftP
  dsimp only
  by_cases h : s = 0
  · have q1 := neF h
    rw [if_pos h]
    clear h
    go_enter Tryd.func16, Tryd.ntmps16
    go_wp2
    go_ret
    exact ⟨rfl, (Below.refl _ _).alloc (Nat.le_refl _) _⟩
  · have q1 := neT h
    rw [if_neg h]
    clear h
    go_enter Tryd.func16, Tryd.ntmps16
    go_wp2
    go_ret
    exact ⟨rfl, (Below.refl _ _).alloc (Nat.le_refl _) _⟩

set_option maxRecDepth 100000 in
theorem gave_any (p : Py) (w : World) : Calls Tryd.prog 17 #[p.val] w (IntRes w (gaveP p)) := by
  obtain ⟨f, d, a, c, r, g, t, s⟩ := p
  unfold Py.val gaveP
  dsimp only
  go_enter Tryd.func17, Tryd.ntmps17
  go_wp2
  go_ret
  exact ⟨rfl, (Below.refl _ _).alloc (Nat.le_refl _) _⟩

set_option maxRecDepth 100000 in
theorem excess_any (n m : Int) (w : World) : Calls Tryd.prog 22 #[.int .i64 n, .int .i64 m] w fun e w' => e = .returned (errV (excE n m)) ∧ w = w' := by
  unfold excE
  by_cases h1 : n < 1
  · rw [if_pos h1]
    go_enter Tryd.func22, Tryd.ntmps22
    go_wp2
    go_ret
    exact ⟨rfl, rfl⟩
  · rw [if_neg h1]
    by_cases h2 : m < n
    · rw [if_pos h2]
      go_enter Tryd.func22, Tryd.ntmps22
      go_wp2
      go_ret
      exact ⟨rfl, rfl⟩
    · rw [if_neg h2]
      go_enter Tryd.func22, Tryd.ntmps22
      go_wp2
      go_ret
      exact ⟨rfl, rfl⟩

set_option maxRecDepth 100000 in
theorem refusal_any (p : Py) (op n : Int) (w : World) : Calls Tryd.prog 18 #[p.val, .int .i64 op, .int .i64 n] w (ErrRes w (payE p op n)) := by
  have HL := Lib.hid (fun W => left_any p W)
  have HG := Lib.hid (fun W => gave_any p W)
  unfold payE
  obtain ⟨l, hl⟩ : ∃ l, leftP p = l := ⟨_, rfl⟩
  obtain ⟨v, hv⟩ : ∃ v, gaveP p = v := ⟨_, rfl⟩
  rw [hl] at HL ⊢
  rw [hv] at HG ⊢
  have HXL := Lib.hid (fun W => excess_any n l W)
  have HXG := Lib.hid (fun W => excess_any n v W)
  clear hl hv
  obtain ⟨f, d, a, c, r, g, t, s⟩ := p
  unfold Py.val at HL HG ⊢
  dsimp only at HL HG ⊢
  by_cases h4 : op = 4
  · rw [if_pos h4]
    obtain ⟨x, hx⟩ : ∃ x, excE n l = x := ⟨_, rfl⟩
    rw [hx] at HXL ⊢
    subst h4
    clear hx HXG HG
    go_enter Tryd.func18, Tryd.ntmps18
    go_wp2_with (first
      | (go_at_call 16; refine (HL.out _).mono ?_; rintro e w1 ⟨rfl, hb1⟩)
      | (go_at_call 22; refine (HXL.out _).mono ?_; rintro e w2 ⟨rfl, rfl⟩))
    go_ret
    exact ⟨rfl, ((Below.refl _ _).alloc (Nat.le_refl _) _).trans (hb1.mono (by simp))⟩
  · rw [if_neg h4]
    have q4 := eqF h4
    by_cases h5 : op = 5
    · rw [if_pos h5]
      subst h5
      by_cases hs : s = 0
      · rw [if_pos hs]
        have q0 := neF hs
        clear hs h4
        go_enter Tryd.func18, Tryd.ntmps18
        go_wp2
        go_ret
        exact ⟨rfl, (Below.refl _ _).alloc (Nat.le_refl _) _⟩
      · rw [if_neg hs]
        have q0 := neT hs
        clear hs h4
        go_enter Tryd.func18, Tryd.ntmps18
        go_wp2
        go_ret
        exact ⟨rfl, (Below.refl _ _).alloc (Nat.le_refl _) _⟩
    · rw [if_neg h5]
      have q5 := eqF h5
      by_cases h67 : op = 6 ∨ op = 7
      · rw [show (if op = 6 then excE n v else if op = 7 then excE n v else 13) = excE n v by rcases h67 with rfl | rfl <;> simp]
        obtain ⟨x, hx⟩ : ∃ x, excE n v = x := ⟨_, rfl⟩
        rw [hx] at HXG ⊢
        clear hx HXL HL h4 h5 q4 q5
        rcases h67 with rfl | rfl
        all_goals
          go_enter Tryd.func18, Tryd.ntmps18
          go_wp2_with (first
            | (go_at_call 17; refine (HG.out _).mono ?_; rintro e w1 ⟨rfl, hb1⟩)
            | (go_at_call 22; refine (HXG.out _).mono ?_; rintro e w2 ⟨rfl, rfl⟩))
          go_ret
          exact ⟨rfl, ((Below.refl _ _).alloc (Nat.le_refl _) _).trans (hb1.mono (by simp))⟩
      · rw [if_neg (fun h => h67 (.inl h)), if_neg (fun h => h67 (.inr h))]
        have q6 := eqF (show ¬ op = 6 from fun h => h67 (.inl h))
        have q7 := eqF (show ¬ op = 7 from fun h => h67 (.inr h))
        clear h4 h5 h67 HL HG HXL HXG
        go_enter Tryd.func18, Tryd.ntmps18
        go_wp2
        go_ret
        exact ⟨rfl, (Below.refl _ _).alloc (Nat.le_refl _) _⟩
end Go.Proofs.YtenghafnpmlbnaaDoor
