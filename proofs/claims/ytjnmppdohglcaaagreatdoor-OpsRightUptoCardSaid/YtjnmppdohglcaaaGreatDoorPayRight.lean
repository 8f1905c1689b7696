/-
  payment.Right by its contract, and the law's.
-/
import Derived.Test.YtjnmppdohglcaaaGreatDoorPayWithin
import Derived.Test.YtjnmppdohglcaaaGreatDoorGrD
namespace Go.Proofs.YtjnmppdohglcaaaGreatDoor
open Go Go.RowKit
set_option linter.unusedVariables false

theorem back_parts (c r g : Int) (hc : c ≤ 9223372036854775807) : decide (0 ≤ r ∧ 0 ≤ g ∧ r + g ≤ c) = (decide (0 ≤ r ∧ r ≤ c) && decide (0 ≤ g ∧ g ≤ c) && decide (0 ≤ wrap64 (r + g) ∧ wrap64 (r + g) ≤ c)) := by
  rw [Bool.eq_iff_iff]
  simp only [decide_eq_true_eq, Bool.and_eq_true, wrap64]
  omega

set_option maxRecDepth 100000 in
theorem rightBack_any (p : Py) (w : World) (hf : p.fits) : Calls Tryz.prog 30 #[p.val] w (BoolRes w (decide (backOk p))) := by
  obtain ⟨f, d, a, c, r, g, t, s⟩ := p
  have hc : c ≤ 9223372036854775807 := hf.2.2.2.1.2
  have hE : decide (backOk ⟨f, d, a, c, r, g, t, s⟩) = _ := back_parts c r g hc
  rw [hE]
  unfold Py.val
  dsimp only
  obtain ⟨b1, h1⟩ : ∃ b, b = decide (0 ≤ r ∧ r ≤ c) := ⟨_, rfl⟩
  obtain ⟨b2, h2⟩ : ∃ b, b = decide (0 ≤ g ∧ g ≤ c) := ⟨_, rfl⟩
  obtain ⟨x, hx⟩ : ∃ x, wrap64 (r + g) = x := ⟨_, rfl⟩
  rw [hx]
  obtain ⟨b3, h3⟩ : ∃ b, b = decide (0 ≤ x ∧ x ≤ c) := ⟨_, rfl⟩
  rw [← h1, ← h2, ← h3]
  have H1 := Lib.hid (fun W => pwithin_is b1 r 0 c W h1)
  have H2 := Lib.hid (fun W => pwithin_is b2 g 0 c W h2)
  have H3 := Lib.hid (fun W => pwithin_is b3 x 0 c W h3)
  clear hE h1 h2 h3 hf hc
  cases b1
  · go_enter Tryz.func30, Tryz.ntmps30
    go_wp2_with fail
    refine (H1.out _).mono ?_
    rintro e w1 ⟨rfl, rfl⟩
    go_wp2
    go_ret
    exact ⟨rfl, (Below.refl _ _).alloc (Nat.le_refl _) _⟩
  · cases b2
    · go_enter Tryz.func30, Tryz.ntmps30
      go_wp2_with fail
      refine (H1.out _).mono ?_
      rintro e w1 ⟨rfl, rfl⟩
      go_wp2_with fail
      refine (H2.out _).mono ?_
      rintro e w1 ⟨rfl, rfl⟩
      go_wp2
      go_ret
      exact ⟨rfl, (Below.refl _ _).alloc (Nat.le_refl _) _⟩
    · go_enter Tryz.func30, Tryz.ntmps30
      go_wp2_with fail
      refine (H1.out _).mono ?_
      rintro e w1 ⟨rfl, rfl⟩
      go_wp2_with fail
      refine (H2.out _).mono ?_
      rintro e w1 ⟨rfl, rfl⟩
      go_wp2_with fail
      rw [hx]
      refine (H3.out _).mono ?_
      rintro e w1 ⟨rfl, rfl⟩
      go_wp2
      go_ret
      exact ⟨rfl, (Below.refl _ _).alloc (Nat.le_refl _) _⟩

theorem right_parts (p : Py) : decide p.right = (decide (1 ≤ p.aut ∧ p.aut ≤ 1099511627776) && decide (0 ≤ p.cap ∧ p.cap ≤ p.aut) && decide (backOk p) && decide (0 ≤ p.til ∧ p.til ≤ 1073741824) && decide (p.stg = 0 ∨ p.stg = 1)) := by
  unfold Py.right
  rw [Bool.eq_iff_iff]
  simp only [decide_eq_true_eq, Bool.and_eq_true, and_assoc]

set_option maxRecDepth 100000 in
set_option maxHeartbeats 1000000 in
theorem pright_any (p : Py) (w : World) (hf : p.fits) : Calls Tryz.prog 13 #[p.val] w (BoolRes w (decide p.right)) := by
  have HX := Lib.hid (fun W => rightBack_any p W hf)
  rw [right_parts]
  obtain ⟨b3, h3⟩ : ∃ b, b = decide (backOk p) := ⟨_, rfl⟩
  rw [← h3] at HX ⊢
  obtain ⟨f, d, a, c, r, g, t, s⟩ := p
  unfold Py.val at HX ⊢
  dsimp only at HX ⊢
  obtain ⟨b1, h1⟩ : ∃ b, b = decide (1 ≤ a ∧ a ≤ 1099511627776) := ⟨_, rfl⟩
  obtain ⟨b2, h2⟩ : ∃ b, b = decide (0 ≤ c ∧ c ≤ a) := ⟨_, rfl⟩
  obtain ⟨b4, h4⟩ : ∃ b, b = decide (0 ≤ t ∧ t ≤ 1073741824) := ⟨_, rfl⟩
  obtain ⟨b7, h7⟩ : ∃ b, b = decide (s = 0 ∨ s = 1) := ⟨_, rfl⟩
  rw [← h1, ← h2, ← h4, ← h7]
  have H7 := Lib.hid h7
  have H1 := Lib.hid (fun W => pwithin_is b1 a 1 1099511627776 W h1)
  have H2 := Lib.hid (fun W => pwithin_is b2 c 0 a W h2)
  have H4 := Lib.hid (fun W => pwithin_is b4 t 0 1073741824 W h4)
  have HB0 := Lib.hid ((Below.refl w.heap.size w).alloc (Nat.le_refl _) (.cells #[.int .i64 f, .int .i64 d, .int .i64 a, .int .i64 c, .int .i64 r, .int .i64 g, .int .i64 t, .int .i64 s] 55))
  clear h1 h2 h3 h4 h7 hf
  cases b1
  · go_enter Tryz.func13, Tryz.ntmps13
    go_wp2_with fail
    refine (H1.out _).mono ?_
    rintro e w1 ⟨rfl, rfl⟩
    go_wp2
    go_ret
    exact ⟨rfl, HB0.out⟩
  · go_enter Tryz.func13, Tryz.ntmps13
    go_wp2_with fail
    refine (H1.out _).mono ?_
    rintro e w1 ⟨rfl, rfl⟩
    go_wp2_with fail
    refine (H2.out _).mono ?_
    rintro e w1 ⟨rfl, rfl⟩
    cases b2
    · go_wp2
      go_ret
      exact ⟨rfl, HB0.out⟩
    · go_wp2_with fail
      refine (HX.out _).mono ?_
      rintro e w3 ⟨rfl, hb3⟩
      have k6 : w3.cell? ⟨w.heap.size, 6, none⟩ = some (.int .i64 t) := by rw [hb3.cell (by simp)]; simp
      have k7 : w3.cell? ⟨w.heap.size, 7, none⟩ = some (.int .i64 s) := by rw [hb3.cell (by simp)]; simp
      have HB3 := Lib.hid (HB0.out.trans (hb3.mono (by simp)))
      clear hb3
      cases b3
      · go_wp2
        go_ret
        exact ⟨rfl, HB3.out⟩
      · go_wp2_with fail
        refine (H4.out _).mono ?_
        rintro e w4 ⟨rfl, rfl⟩
        cases b4
        · go_wp2
          go_ret
          exact ⟨rfl, HB3.out⟩
        · by_cases q : s = 0
          · have q0 := eqT q
            obtain rfl : b7 = true := H7.out.trans (decide_eq_true (.inl q))
            clear q H7
            go_wp2
            go_ret
            exact ⟨rfl, HB3.out⟩
          · have q0 := eqF q
            by_cases q' : s = 1
            · have q1 := eqT q'
              obtain rfl : b7 = true := H7.out.trans (decide_eq_true (.inr q'))
              clear q' q H7
              go_wp2
              go_ret
              exact ⟨rfl, HB3.out⟩
            · have q1 := eqF q'
              obtain rfl : b7 = false := H7.out.trans (decide_eq_false (by omega))
              clear q' q H7
              go_wp2
              go_ret
              exact ⟨rfl, HB3.out⟩
end Go.Proofs.YtjnmppdohglcaaaGreatDoor
