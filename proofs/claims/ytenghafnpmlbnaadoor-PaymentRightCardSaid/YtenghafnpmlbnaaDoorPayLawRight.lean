/-
  The law's right by its contract: the same as payment.Right.
-/
import Derived.Test.YtenghafnpmlbnaaDoorPaySmall
namespace Go.Proofs.YtenghafnpmlbnaaDoor
open Go Go.RowKit
set_option linter.unusedVariables false

theorem right_iff (f d a c r g t s : Int) : (Py.mk f d a c r g t s).right ↔ (1 ≤ a ∧ a ≤ 1099511627776) ∧ (0 ≤ c ∧ c ≤ a) ∧ (0 ≤ r ∧ 0 ≤ g ∧ r + g ≤ c) ∧ (0 ≤ t ∧ t ≤ 1073741824) ∧ (s = 0 ∨ s = 1) := Iff.rfl

set_option maxRecDepth 100000 in
set_option maxHeartbeats 2000000 in
theorem lawright_any (p : Py) (w : World) : Calls Tryd.prog 15 #[p.val] w (BoolRes w (decide p.right)) := by
  obtain ⟨f, d, a, c, r, g, t, s⟩ := p
  have hR := right_iff f d a c r g t s
  obtain ⟨R, hr⟩ : ∃ R : Bool, decide (Py.mk f d a c r g t s).right = R := ⟨_, rfl⟩
  rw [hr]
  unfold Py.val
  dsimp only
  by_cases k1 : a < 1
  · obtain rfl : R = false := hr.symm.trans (decide_eq_false (by rw [hR]; omega))
    clear hr hR
    go_enter Tryd.func15, Tryd.ntmps15
    go_wp2
    go_ret
    exact ⟨rfl, (Below.refl _ _).alloc (Nat.le_refl _) _⟩
  · by_cases k2 : 1099511627776 < a
    · obtain rfl : R = false := hr.symm.trans (decide_eq_false (by rw [hR]; omega))
      clear hr hR
      go_enter Tryd.func15, Tryd.ntmps15
      go_wp2
      go_ret
      exact ⟨rfl, (Below.refl _ _).alloc (Nat.le_refl _) _⟩
    · by_cases k3 : c < 0
      · obtain rfl : R = false := hr.symm.trans (decide_eq_false (by rw [hR]; omega))
        clear hr hR
        go_enter Tryd.func15, Tryd.ntmps15
        go_wp2
        go_ret
        exact ⟨rfl, (Below.refl _ _).alloc (Nat.le_refl _) _⟩
      · by_cases k4 : a < c
        · obtain rfl : R = false := hr.symm.trans (decide_eq_false (by rw [hR]; omega))
          clear hr hR
          go_enter Tryd.func15, Tryd.ntmps15
          go_wp2
          go_ret
          exact ⟨rfl, (Below.refl _ _).alloc (Nat.le_refl _) _⟩
        · by_cases k5 : t < 0
          · obtain rfl : R = false := hr.symm.trans (decide_eq_false (by rw [hR]; omega))
            clear hr hR
            go_enter Tryd.func15, Tryd.ntmps15
            go_wp2
            go_ret
            exact ⟨rfl, (Below.refl _ _).alloc (Nat.le_refl _) _⟩
          · by_cases k6 : 1073741824 < t
            · obtain rfl : R = false := hr.symm.trans (decide_eq_false (by rw [hR]; omega))
              clear hr hR
              go_enter Tryd.func15, Tryd.ntmps15
              go_wp2
              go_ret
              exact ⟨rfl, (Below.refl _ _).alloc (Nat.le_refl _) _⟩
            · by_cases k7 : s = 0
              · have q0 := neF k7
                by_cases k8 : 0 ≤ r
                · by_cases k9 : 0 ≤ g
                  · by_cases k10 : r ≤ c
                    · by_cases k11 : g ≤ c - r
                      · obtain rfl : R = true := hr.symm.trans (decide_eq_true (by rw [hR]; omega))
                        have q11 := decide_eq_true k11
                        clear hr hR
                        go_enter Tryd.func15, Tryd.ntmps15
                        go_wp2
                        go_ret
                        exact ⟨rfl, (Below.refl _ _).alloc (Nat.le_refl _) _⟩
                      · obtain rfl : R = false := hr.symm.trans (decide_eq_false (by rw [hR]; omega))
                        have q11 := decide_eq_false k11
                        clear hr hR
                        go_enter Tryd.func15, Tryd.ntmps15
                        go_wp2
                        go_ret
                        exact ⟨rfl, (Below.refl _ _).alloc (Nat.le_refl _) _⟩
                    · obtain rfl : R = false := hr.symm.trans (decide_eq_false (by rw [hR]; omega))
                      clear hr hR
                      go_enter Tryd.func15, Tryd.ntmps15
                      go_wp2
                      go_ret
                      exact ⟨rfl, (Below.refl _ _).alloc (Nat.le_refl _) _⟩
                  · obtain rfl : R = false := hr.symm.trans (decide_eq_false (by rw [hR]; omega))
                    clear hr hR
                    go_enter Tryd.func15, Tryd.ntmps15
                    go_wp2
                    go_ret
                    exact ⟨rfl, (Below.refl _ _).alloc (Nat.le_refl _) _⟩
                · obtain rfl : R = false := hr.symm.trans (decide_eq_false (by rw [hR]; omega))
                  clear hr hR
                  go_enter Tryd.func15, Tryd.ntmps15
                  go_wp2
                  go_ret
                  exact ⟨rfl, (Below.refl _ _).alloc (Nat.le_refl _) _⟩
              · have q0 := neT k7
                by_cases k7' : s = 1
                · have q1 := neF k7'
                  by_cases k8 : 0 ≤ r
                  · by_cases k9 : 0 ≤ g
                    · by_cases k10 : r ≤ c
                      · by_cases k11 : g ≤ c - r
                        · obtain rfl : R = true := hr.symm.trans (decide_eq_true (by rw [hR]; omega))
                          have q11 := decide_eq_true k11
                          clear hr hR
                          go_enter Tryd.func15, Tryd.ntmps15
                          go_wp2
                          go_ret
                          exact ⟨rfl, (Below.refl _ _).alloc (Nat.le_refl _) _⟩
                        · obtain rfl : R = false := hr.symm.trans (decide_eq_false (by rw [hR]; omega))
                          have q11 := decide_eq_false k11
                          clear hr hR
                          go_enter Tryd.func15, Tryd.ntmps15
                          go_wp2
                          go_ret
                          exact ⟨rfl, (Below.refl _ _).alloc (Nat.le_refl _) _⟩
                      · obtain rfl : R = false := hr.symm.trans (decide_eq_false (by rw [hR]; omega))
                        clear hr hR
                        go_enter Tryd.func15, Tryd.ntmps15
                        go_wp2
                        go_ret
                        exact ⟨rfl, (Below.refl _ _).alloc (Nat.le_refl _) _⟩
                    · obtain rfl : R = false := hr.symm.trans (decide_eq_false (by rw [hR]; omega))
                      clear hr hR
                      go_enter Tryd.func15, Tryd.ntmps15
                      go_wp2
                      go_ret
                      exact ⟨rfl, (Below.refl _ _).alloc (Nat.le_refl _) _⟩
                  · obtain rfl : R = false := hr.symm.trans (decide_eq_false (by rw [hR]; omega))
                    clear hr hR
                    go_enter Tryd.func15, Tryd.ntmps15
                    go_wp2
                    go_ret
                    exact ⟨rfl, (Below.refl _ _).alloc (Nat.le_refl _) _⟩
                · have q1 := neT k7'
                  obtain rfl : R = false := hr.symm.trans (decide_eq_false (by rw [hR]; omega))
                  clear hr hR
                  go_enter Tryd.func15, Tryd.ntmps15
                  go_wp2
                  go_ret
                  exact ⟨rfl, (Below.refl _ _).alloc (Nat.le_refl _) _⟩
end Go.Proofs.YtenghafnpmlbnaaDoor
