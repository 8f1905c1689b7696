/-
  What a move's entries come to: plain words, no program.
-/
import Derived.Test.YtbneohglblkmeaaDoorEntMove
namespace Go.Proofs.YtbneohglblkmeaaDoor
open Go Go.RowKit
set_option linter.unusedVariables false

theorem curOf_exch {zs : List Ac} (hz : ∀ j, j < 9 → ∃ b : Int, zs[j]? = some ⟨(j : Int) / 3, b, 0⟩) (c : Int) (hc : 0 ≤ c ∧ c < 3) : curOf zs (exch c) = c := by
  obtain ⟨b, hb⟩ := hz (3 * c + 1).toNat (by omega)
  have := curOf_at hb
  rw [show (((3 * c + 1).toNat : Nat) : Int) = exch c by unfold exch; omega] at this
  rw [this]
  dsimp only
  unfold exch
  omega
theorem curOf_in {zs : List Ac} (hcu : Curs zs) {f : Int} (hf : 0 ≤ f ∧ f < (zs.length : Int)) : 0 ≤ curOf zs f ∧ curOf zs f < 3 := by
  obtain ⟨a, ha⟩ : ∃ a, zs[f.toNat]? = some a := ⟨_, List.getElem?_eq_getElem (by omega)⟩
  have := curOf_at ha
  rw [show ((f.toNat : Nat) : Int) = f by omega] at this
  rw [this]
  exact hcu _ _ ha
/-- Where a move goes, what is so. -/
theorem moveE_ok {zs : List Ac} {f t x : Int} (h : moveE zs f t x = 0) : (0 ≤ f ∧ f < (zs.length : Int)) ∧ (0 ≤ t ∧ t < (zs.length : Int)) ∧ f ≠ t ∧ 1 ≤ x ∧ x ≤ 1099511627776 ∧
    (curOf zs f ≠ curOf zs t → conv (curOf zs f) (curOf zs t) x ≤ 1099511627776 ∧ conv (curOf zs f) (curOf zs t) x ≠ 0) := by
  unfold moveE at h
  split at h
  · omega
  · next h1 =>
    split at h
    · omega
    · next h2 =>
      refine ⟨by omega, by omega, by omega, by omega, by omega, fun hne => ?_⟩
      rw [if_neg hne] at h
      unfold convE at h
      split at h
      · omega
      · split at h
        · omega
        · next h3 h4 => exact ⟨by omega, h4⟩
theorem move_sum {zs : List Ac} (hz : ∀ j, j < 9 → ∃ b : Int, zs[j]? = some ⟨(j : Int) / 3, b, 0⟩) (hcu : Curs zs) {f t x : Int} (h : moveE zs f t x = 0) (c : Int) : esum zs c (moveL zs f t x) = 0 := by
  obtain ⟨hf, ht, _⟩ := moveE_ok h
  have ha := curOf_in hcu hf
  have hb := curOf_in hcu ht
  unfold moveL
  rw [if_pos h]
  unfold moveOk
  by_cases hab : curOf zs f = curOf zs t
  · rw [if_pos hab]
    simp only [esum, hab]
    split <;> omega
  · rw [if_neg hab]
    simp only [esum, curOf_exch hz _ ha, curOf_exch hz _ hb]
    split <;> split <;> omega
theorem conv_small {a b x : Int} (ha : 0 ≤ a ∧ a < 3) (hb : 0 ≤ b ∧ b < 3) (h0 : 0 ≤ x) (hx : x ≤ 65535) : 0 ≤ conv a b x ∧ conv a b x ≤ 20000000 := by
  have h1 : a = 0 ∨ a = 1 ∨ a = 2 := by omega
  have h2 : b = 0 ∨ b = 1 ∨ b = 2 := by omega
  rcases h1 with rfl | rfl | rfl <;> rcases h2 with rfl | rfl | rfl <;> (simp only [conv, rateN, rateD]; simp; omega)
theorem move_tame {zs : List Ac} (hz : ∀ j, j < 9 → ∃ b : Int, zs[j]? = some ⟨(j : Int) / 3, b, 0⟩) (hcu : Curs zs) {f t x : Int} (h : moveE zs f t x = 0) (hx : x ≤ 65535) : Tame zs 20000000 (moveL zs f t x) := by
  obtain ⟨hf, ht, _, x1, _⟩ := moveE_ok h
  have ha := curOf_in hcu hf
  have hb := curOf_in hcu ht
  have hc := conv_small ha hb (show (0 : Int) ≤ x by omega) hx
  intro e he
  unfold moveL at he
  rw [if_pos h] at he
  unfold moveOk at he
  by_cases hab : curOf zs f = curOf zs t
  · rw [if_pos hab] at he
    simp only [List.mem_cons, List.not_mem_nil, or_false] at he
    rcases he with rfl | rfl
    · exact ⟨ha, by dsimp only; omega, by dsimp only; omega⟩
    · exact ⟨hb, by dsimp only; omega, by dsimp only; omega⟩
  · rw [if_neg hab] at he
    simp only [List.mem_cons, List.not_mem_nil, or_false] at he
    rcases he with rfl | rfl | rfl | rfl
    · exact ⟨ha, by dsimp only; omega, by dsimp only; omega⟩
    · exact ⟨by dsimp only; rw [curOf_exch hz _ ha]; exact ha, by dsimp only; omega, by dsimp only; omega⟩
    · exact ⟨by dsimp only; rw [curOf_exch hz _ hb]; exact hb, by dsimp only; omega, by dsimp only; omega⟩
    · exact ⟨hb, by dsimp only; omega, by dsimp only; omega⟩
theorem moveL_len (zs : List Ac) (f t x : Int) : (moveL zs f t x).length ≤ 4 := by
  unfold moveL
  split
  · unfold moveOk
    split <;> simp
  · simp
theorem move_bal {zs : List Ac} (hz : ∀ j, j < 9 → ∃ b : Int, zs[j]? = some ⟨(j : Int) / 3, b, 0⟩) (hcu : Curs zs) {f t x : Int} (h : moveE zs f t x = 0) (hx : x ≤ 65535) : balB zs (moveL zs f t x) = true := by
  rw [balB_tame zs 20000000 (by omega) (by omega) _ (move_tame hz hcu h hx) (by have := moveL_len zs f t x; omega)]
  rw [move_sum hz hcu h, move_sum hz hcu h, move_sum hz hcu h]
  simp
end Go.Proofs.YtbneohglblkmeaaDoor
