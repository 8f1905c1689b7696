/-
  The law's 'may' by its contract: which requests may be.
-/
import Derived.Test.YtenepkhglgfpaaaReqSmall
namespace Go.Proofs.Ytenepkhglgfpaaa
open Go Go.RowKit
set_option linter.unusedVariables false

set_option maxRecDepth 100000 in
theorem lm_key_low (key op a b amt legs til : Int) (w : World) (h0 : key < 0) :
    Calls Try.prog 11 #[(Rq.mk key op a b amt legs til).val] w (BoolRes w false) := by
  unfold Rq.val
  dsimp only
  go_enter Try.func11, Try.ntmps11
  go_wp2
  go_ret
  exact ⟨rfl, (Below.refl _ _).alloc (Nat.le_refl _) _⟩

set_option maxRecDepth 100000 in
theorem lm_key_high (key op a b amt legs til : Int) (w : World) (h0 : 0 ≤ key) (h0' : 1073741823 < key) :
    Calls Try.prog 11 #[(Rq.mk key op a b amt legs til).val] w (BoolRes w false) := by
  unfold Rq.val
  dsimp only
  go_enter Try.func11, Try.ntmps11
  go_wp2
  go_ret
  exact ⟨rfl, (Below.refl _ _).alloc (Nat.le_refl _) _⟩

set_option maxRecDepth 100000 in
theorem lm_legs_low (key op a b amt legs til : Int) (w : World) (h0 : 0 ≤ key) (h0' : key ≤ 1073741823) (h1 : legs < 0) :
    Calls Try.prog 11 #[(Rq.mk key op a b amt legs til).val] w (BoolRes w false) := by
  unfold Rq.val
  dsimp only
  go_enter Try.func11, Try.ntmps11
  go_wp2
  go_ret
  exact ⟨rfl, (Below.refl _ _).alloc (Nat.le_refl _) _⟩

set_option maxRecDepth 100000 in
theorem lm_legs_high (key op a b amt legs til : Int) (w : World) (h0 : 0 ≤ key) (h0' : key ≤ 1073741823) (h1 : 0 ≤ legs) (h1' : 4 < legs) :
    Calls Try.prog 11 #[(Rq.mk key op a b amt legs til).val] w (BoolRes w false) := by
  unfold Rq.val
  dsimp only
  go_enter Try.func11, Try.ntmps11
  go_wp2
  go_ret
  exact ⟨rfl, (Below.refl _ _).alloc (Nat.le_refl _) _⟩

set_option maxRecDepth 100000 in
theorem lm_til_low (key op a b amt legs til : Int) (w : World) (h0 : 0 ≤ key) (h0' : key ≤ 1073741823) (h1 : 0 ≤ legs) (h1' : legs ≤ 4) (h2 : til < 0) :
    Calls Try.prog 11 #[(Rq.mk key op a b amt legs til).val] w (BoolRes w false) := by
  unfold Rq.val
  dsimp only
  go_enter Try.func11, Try.ntmps11
  go_wp2
  go_ret
  exact ⟨rfl, (Below.refl _ _).alloc (Nat.le_refl _) _⟩

set_option maxRecDepth 100000 in
theorem lm_til_high (key op a b amt legs til : Int) (w : World) (h0 : 0 ≤ key) (h0' : key ≤ 1073741823) (h1 : 0 ≤ legs) (h1' : legs ≤ 4) (h2 : 0 ≤ til) (h2' : 1073741824 < til) :
    Calls Try.prog 11 #[(Rq.mk key op a b amt legs til).val] w (BoolRes w false) := by
  unfold Rq.val
  dsimp only
  go_enter Try.func11, Try.ntmps11
  go_wp2
  go_ret
  exact ⟨rfl, (Below.refl _ _).alloc (Nat.le_refl _) _⟩

set_option maxRecDepth 100000 in
theorem lm_legs_no (key op a b amt legs til : Int) (w : World) (h0 : 0 ≤ key) (h0' : key ≤ 1073741823) (h1 : 0 ≤ legs) (h1' : legs ≤ 4) (h2 : 0 ≤ til) (h2' : til ≤ 1073741824) (h3 : ¬ op = 2) (h4 : ¬ legs = 0) :
    Calls Try.prog 11 #[(Rq.mk key op a b amt legs til).val] w (BoolRes w false) := by
  unfold Rq.val
  dsimp only
  have q1 := neT h3
  have q2 := neT h4
  go_enter Try.func11, Try.ntmps11
  go_wp2
  go_ret
  exact ⟨rfl, (Below.refl _ _).alloc (Nat.le_refl _) _⟩

set_option maxRecDepth 100000 in
theorem lm_open_low (key op a b amt legs til : Int) (w : World) (h0 : 0 ≤ key) (h0' : key ≤ 1073741823) (h1 : 0 ≤ legs) (h1' : legs ≤ 4) (h2 : 0 ≤ til) (h2' : til ≤ 1073741824) (h3 : op = 0) (h4 : legs = 0) (h5 : a < 0) :
    Calls Try.prog 11 #[(Rq.mk key op a b amt legs til).val] w (BoolRes w false) := by
  unfold Rq.val
  dsimp only
  have q1 := neT (show ¬ op = 2 by omega)
  have q2 := neF h4
  have q3 := eqT h3
  go_enter Try.func11, Try.ntmps11
  go_wp2
  go_ret
  exact ⟨rfl, (Below.refl _ _).alloc (Nat.le_refl _) _⟩

set_option maxRecDepth 100000 in
theorem lm_open_high (key op a b amt legs til : Int) (w : World) (h0 : 0 ≤ key) (h0' : key ≤ 1073741823) (h1 : 0 ≤ legs) (h1' : legs ≤ 4) (h2 : 0 ≤ til) (h2' : til ≤ 1073741824) (h3 : op = 0) (h4 : legs = 0) (h5 : 0 ≤ a) (h6 : ¬ a ≤ 2) :
    Calls Try.prog 11 #[(Rq.mk key op a b amt legs til).val] w (BoolRes w false) := by
  unfold Rq.val
  dsimp only
  have q1 := neT (show ¬ op = 2 by omega)
  have q2 := neF h4
  have q3 := eqT h3
  go_enter Try.func11, Try.ntmps11
  go_wp2
  go_ret
  exact ⟨rfl, (Below.refl _ _).alloc (Nat.le_refl _) _⟩

set_option maxRecDepth 100000 in
theorem lm_open (key op a b amt legs til : Int) (w : World) (h0 : 0 ≤ key) (h0' : key ≤ 1073741823) (h1 : 0 ≤ legs) (h1' : legs ≤ 4) (h2 : 0 ≤ til) (h2' : til ≤ 1073741824) (h3 : op = 0) (h4 : legs = 0) (h5 : 0 ≤ a) (h6 : a ≤ 2) :
    Calls Try.prog 11 #[(Rq.mk key op a b amt legs til).val] w (BoolRes w true) := by
  unfold Rq.val
  dsimp only
  have q1 := neT (show ¬ op = 2 by omega)
  have q2 := neF h4
  have q3 := eqT h3
  go_enter Try.func11, Try.ntmps11
  go_wp2
  go_ret
  exact ⟨rfl, (Below.refl _ _).alloc (Nat.le_refl _) _⟩

set_option maxRecDepth 100000 in
theorem lm_void (key op a b amt legs til : Int) (w : World) (h0 : 0 ≤ key) (h0' : key ≤ 1073741823) (h1 : 0 ≤ legs) (h1' : legs ≤ 4) (h2 : 0 ≤ til) (h2' : til ≤ 1073741824) (h3 : op = 5) (h4 : legs = 0) :
    Calls Try.prog 11 #[(Rq.mk key op a b amt legs til).val] w (BoolRes w true) := by
  unfold Rq.val
  dsimp only
  have q1 := neT (show ¬ op = 2 by omega)
  have q2 := neF h4
  have q3 := eqF (show ¬ op = 0 by omega)
  have q4 := eqT h3
  go_enter Try.func11, Try.ntmps11
  go_wp2
  go_ret
  exact ⟨rfl, (Below.refl _ _).alloc (Nat.le_refl _) _⟩

set_option maxRecDepth 100000 in
theorem lm_two_small (key op a b amt legs til : Int) (w : World) (h0 : 0 ≤ key) (h0' : key ≤ 1073741823) (h1 : 0 ≤ legs) (h1' : legs ≤ 4) (h2 : 0 ≤ til) (h2' : til ≤ 1073741824) (h3 : op = 2) (h5 : 0 < op) (h6 : op < 8) (h7 : amt < 1) :
    Calls Try.prog 11 #[(Rq.mk key op a b amt legs til).val] w (BoolRes w false) := by
  unfold Rq.val
  dsimp only
  have q1 := neF h3
  have q3 := eqF (show ¬ op = 0 by omega)
  have q4 := eqF (show ¬ op = 5 by omega)
  go_enter Try.func11, Try.ntmps11
  go_wp2
  go_ret
  exact ⟨rfl, (Below.refl _ _).alloc (Nat.le_refl _) _⟩

set_option maxRecDepth 100000 in
theorem lm_two_great (key op a b amt legs til : Int) (w : World) (h0 : 0 ≤ key) (h0' : key ≤ 1073741823) (h1 : 0 ≤ legs) (h1' : legs ≤ 4) (h2 : 0 ≤ til) (h2' : til ≤ 1073741824) (h3 : op = 2) (h5 : 0 < op) (h6 : op < 8) (h7 : 1 ≤ amt) (h8 : ¬ amt ≤ 1099511627776) :
    Calls Try.prog 11 #[(Rq.mk key op a b amt legs til).val] w (BoolRes w false) := by
  unfold Rq.val
  dsimp only
  have q1 := neF h3
  have q3 := eqF (show ¬ op = 0 by omega)
  have q4 := eqF (show ¬ op = 5 by omega)
  go_enter Try.func11, Try.ntmps11
  go_wp2
  go_ret
  exact ⟨rfl, (Below.refl _ _).alloc (Nat.le_refl _) _⟩

set_option maxRecDepth 100000 in
theorem lm_two (key op a b amt legs til : Int) (w : World) (h0 : 0 ≤ key) (h0' : key ≤ 1073741823) (h1 : 0 ≤ legs) (h1' : legs ≤ 4) (h2 : 0 ≤ til) (h2' : til ≤ 1073741824) (h3 : op = 2) (h5 : 0 < op) (h6 : op < 8) (h7 : 1 ≤ amt) (h8 : amt ≤ 1099511627776) :
    Calls Try.prog 11 #[(Rq.mk key op a b amt legs til).val] w (BoolRes w true) := by
  unfold Rq.val
  dsimp only
  have q1 := neF h3
  have q3 := eqF (show ¬ op = 0 by omega)
  have q4 := eqF (show ¬ op = 5 by omega)
  go_enter Try.func11, Try.ntmps11
  go_wp2
  go_ret
  exact ⟨rfl, (Below.refl _ _).alloc (Nat.le_refl _) _⟩

set_option maxRecDepth 100000 in
theorem lm_other_low (key op a b amt legs til : Int) (w : World) (h0 : 0 ≤ key) (h0' : key ≤ 1073741823) (h1 : 0 ≤ legs) (h1' : legs ≤ 4) (h2 : 0 ≤ til) (h2' : til ≤ 1073741824) (h3 : ¬ op = 2) (h3' : ¬ op = 0) (h3'' : ¬ op = 5) (h4 : legs = 0) (h5 : op ≤ 0) :
    Calls Try.prog 11 #[(Rq.mk key op a b amt legs til).val] w (BoolRes w false) := by
  unfold Rq.val
  dsimp only
  have q1 := neT h3
  have q2 := neF h4
  have q3 := eqF (show ¬ op = 0 by omega)
  have q4 := eqF (show ¬ op = 5 by omega)
  go_enter Try.func11, Try.ntmps11
  go_wp2
  go_ret
  exact ⟨rfl, (Below.refl _ _).alloc (Nat.le_refl _) _⟩

set_option maxRecDepth 100000 in
theorem lm_other_high (key op a b amt legs til : Int) (w : World) (h0 : 0 ≤ key) (h0' : key ≤ 1073741823) (h1 : 0 ≤ legs) (h1' : legs ≤ 4) (h2 : 0 ≤ til) (h2' : til ≤ 1073741824) (h3 : ¬ op = 2) (h3' : ¬ op = 0) (h3'' : ¬ op = 5) (h4 : legs = 0) (h5 : 0 < op) (h6 : 8 ≤ op) :
    Calls Try.prog 11 #[(Rq.mk key op a b amt legs til).val] w (BoolRes w false) := by
  unfold Rq.val
  dsimp only
  have q1 := neT h3
  have q2 := neF h4
  have q3 := eqF (show ¬ op = 0 by omega)
  have q4 := eqF (show ¬ op = 5 by omega)
  go_enter Try.func11, Try.ntmps11
  go_wp2
  go_ret
  exact ⟨rfl, (Below.refl _ _).alloc (Nat.le_refl _) _⟩

set_option maxRecDepth 100000 in
theorem lm_other_small (key op a b amt legs til : Int) (w : World) (h0 : 0 ≤ key) (h0' : key ≤ 1073741823) (h1 : 0 ≤ legs) (h1' : legs ≤ 4) (h2 : 0 ≤ til) (h2' : til ≤ 1073741824) (h3 : ¬ op = 2) (h3' : ¬ op = 0) (h3'' : ¬ op = 5) (h4 : legs = 0) (h5 : 0 < op) (h6 : op < 8) (h7 : amt < 1) :
    Calls Try.prog 11 #[(Rq.mk key op a b amt legs til).val] w (BoolRes w false) := by
  unfold Rq.val
  dsimp only
  have q1 := neT h3
  have q2 := neF h4
  have q3 := eqF (show ¬ op = 0 by omega)
  have q4 := eqF (show ¬ op = 5 by omega)
  go_enter Try.func11, Try.ntmps11
  go_wp2
  go_ret
  exact ⟨rfl, (Below.refl _ _).alloc (Nat.le_refl _) _⟩

set_option maxRecDepth 100000 in
theorem lm_other_great (key op a b amt legs til : Int) (w : World) (h0 : 0 ≤ key) (h0' : key ≤ 1073741823) (h1 : 0 ≤ legs) (h1' : legs ≤ 4) (h2 : 0 ≤ til) (h2' : til ≤ 1073741824) (h3 : ¬ op = 2) (h3' : ¬ op = 0) (h3'' : ¬ op = 5) (h4 : legs = 0) (h5 : 0 < op) (h6 : op < 8) (h7 : 1 ≤ amt) (h8 : ¬ amt ≤ 1099511627776) :
    Calls Try.prog 11 #[(Rq.mk key op a b amt legs til).val] w (BoolRes w false) := by
  unfold Rq.val
  dsimp only
  have q1 := neT h3
  have q2 := neF h4
  have q3 := eqF (show ¬ op = 0 by omega)
  have q4 := eqF (show ¬ op = 5 by omega)
  go_enter Try.func11, Try.ntmps11
  go_wp2
  go_ret
  exact ⟨rfl, (Below.refl _ _).alloc (Nat.le_refl _) _⟩

set_option maxRecDepth 100000 in
theorem lm_other (key op a b amt legs til : Int) (w : World) (h0 : 0 ≤ key) (h0' : key ≤ 1073741823) (h1 : 0 ≤ legs) (h1' : legs ≤ 4) (h2 : 0 ≤ til) (h2' : til ≤ 1073741824) (h3 : ¬ op = 2) (h3' : ¬ op = 0) (h3'' : ¬ op = 5) (h4 : legs = 0) (h5 : 0 < op) (h6 : op < 8) (h7 : 1 ≤ amt) (h8 : amt ≤ 1099511627776) :
    Calls Try.prog 11 #[(Rq.mk key op a b amt legs til).val] w (BoolRes w true) := by
  unfold Rq.val
  dsimp only
  have q1 := neT h3
  have q2 := neF h4
  have q3 := eqF (show ¬ op = 0 by omega)
  have q4 := eqF (show ¬ op = 5 by omega)
  go_enter Try.func11, Try.ntmps11
  go_wp2
  go_ret
  exact ⟨rfl, (Below.refl _ _).alloc (Nat.le_refl _) _⟩

/-- The law's own word of which requests may be. -/
theorem lawmay_any (r : Rq) (w : World) : Calls Try.prog 11 #[r.val] w (BoolRes w (decide r.may)) := by
  obtain ⟨key, op, a, b, amt, legs, til⟩ := r
  have hD : (Rq.mk key op a b amt legs til).may ↔ (0 ≤ key ∧ key ≤ 1073741823) ∧ (if op = 2 then 0 ≤ legs ∧ legs ≤ 4 else legs = 0) ∧ (0 ≤ til ∧ til ≤ 1073741824) ∧ (if op = 0 then 0 ≤ a ∧ a ≤ 2 else op = 5 ∨ (0 < op ∧ op < 8 ∧ 1 ≤ amt ∧ amt ≤ 1099511627776)) := Iff.rfl
  have no : ∀ {P : Prop} [Decidable P], ¬ P → BoolRes w false = BoolRes w (decide P) := fun h => by rw [decide_eq_false h]
  have yes : ∀ {P : Prop} [Decidable P], P → BoolRes w true = BoolRes w (decide P) := fun h => by rw [decide_eq_true h]
  by_cases k0 : 0 ≤ key
  · by_cases k1 : key ≤ 1073741823
    · by_cases l0 : 0 ≤ legs
      · by_cases l1 : legs ≤ 4
        · by_cases t0 : 0 ≤ til
          · by_cases t1 : til ≤ 1073741824
            · by_cases o2 : op = 2
              · by_cases m1 : 1 ≤ amt
                · by_cases m2 : amt ≤ 1099511627776
                  · rw [← yes (hD.2 (by rw [if_pos o2, if_neg (by omega)]; omega))]
                    exact lm_two key op a b amt legs til w k0 k1 l0 l1 t0 t1 o2 (by omega) (by omega) m1 m2
                  · rw [← no (fun h => by have := hD.1 h; rw [if_pos o2, if_neg (by omega)] at this; omega)]
                    exact lm_two_great key op a b amt legs til w k0 k1 l0 l1 t0 t1 o2 (by omega) (by omega) m1 (by omega)
                · rw [← no (fun h => by have := hD.1 h; rw [if_pos o2, if_neg (by omega)] at this; omega)]
                  exact lm_two_small key op a b amt legs til w k0 k1 l0 l1 t0 t1 o2 (by omega) (by omega) (by omega)
              · by_cases lz : legs = 0
                · by_cases o0 : op = 0
                  · by_cases a0 : 0 ≤ a
                    · by_cases a1 : a ≤ 2
                      · rw [← yes (hD.2 (by rw [if_neg o2, if_pos o0]; omega))]
                        exact lm_open key op a b amt legs til w k0 k1 l0 l1 t0 t1 o0 lz a0 a1
                      · rw [← no (fun h => by have := hD.1 h; rw [if_neg o2, if_pos o0] at this; omega)]
                        exact lm_open_high key op a b amt legs til w k0 k1 l0 l1 t0 t1 o0 lz a0 (by omega)
                    · rw [← no (fun h => by have := hD.1 h; rw [if_neg o2, if_pos o0] at this; omega)]
                      exact lm_open_low key op a b amt legs til w k0 k1 l0 l1 t0 t1 o0 lz (by omega)
                  · by_cases o5 : op = 5
                    · rw [← yes (hD.2 (by rw [if_neg o2, if_neg o0]; omega))]
                      exact lm_void key op a b amt legs til w k0 k1 l0 l1 t0 t1 o5 lz
                    · by_cases op0 : 0 < op
                      · by_cases op8 : op < 8
                        · by_cases m1 : 1 ≤ amt
                          · by_cases m2 : amt ≤ 1099511627776
                            · rw [← yes (hD.2 (by rw [if_neg o2, if_neg o0]; omega))]
                              exact lm_other key op a b amt legs til w k0 k1 l0 l1 t0 t1 o2 o0 o5 lz op0 op8 m1 m2
                            · rw [← no (fun h => by have := hD.1 h; rw [if_neg o2, if_neg o0] at this; omega)]
                              exact lm_other_great key op a b amt legs til w k0 k1 l0 l1 t0 t1 o2 o0 o5 lz op0 op8 m1 (by omega)
                          · rw [← no (fun h => by have := hD.1 h; rw [if_neg o2, if_neg o0] at this; omega)]
                            exact lm_other_small key op a b amt legs til w k0 k1 l0 l1 t0 t1 o2 o0 o5 lz op0 op8 (by omega)
                        · rw [← no (fun h => by have := hD.1 h; rw [if_neg o2, if_neg o0] at this; omega)]
                          exact lm_other_high key op a b amt legs til w k0 k1 l0 l1 t0 t1 o2 o0 o5 lz op0 (by omega)
                      · rw [← no (fun h => by have := hD.1 h; rw [if_neg o2, if_neg o0] at this; omega)]
                        exact lm_other_low key op a b amt legs til w k0 k1 l0 l1 t0 t1 o2 o0 o5 lz (by omega)
                · rw [← no (fun h => by have := (hD.1 h).2.1; rw [if_neg o2] at this; omega)]
                  exact lm_legs_no key op a b amt legs til w k0 k1 l0 l1 t0 t1 o2 lz
            · rw [← no (fun h => t1 (hD.1 h).2.2.1.2)]
              exact lm_til_high key op a b amt legs til w k0 k1 l0 l1 t0 (by omega)
          · rw [← no (fun h => t0 (hD.1 h).2.2.1.1)]
            exact lm_til_low key op a b amt legs til w k0 k1 l0 l1 (by omega)
        · rw [← no (fun h => by have := (hD.1 h).2.1; split at this <;> omega)]
          exact lm_legs_high key op a b amt legs til w k0 k1 l0 (by omega)
      · rw [← no (fun h => by have := (hD.1 h).2.1; split at this <;> omega)]
        exact lm_legs_low key op a b amt legs til w k0 k1 (by omega)
    · rw [← no (fun h => k1 (hD.1 h).1.2)]
      exact lm_key_high key op a b amt legs til w k0 (by omega)
  · rw [← no (fun h => k0 (hD.1 h).1.1)]
    exact lm_key_low key op a b amt legs til w (by omega)
end Go.Proofs.Ytenepkhglgfpaaa
