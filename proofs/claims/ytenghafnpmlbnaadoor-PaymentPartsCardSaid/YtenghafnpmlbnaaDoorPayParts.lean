/-
  In two parts the same is captured, or goes back, as at once: the plain words.
-/
import Derived.Test.YtenghafnpmlbnaaDoorPay
namespace Go.Proofs.YtenghafnpmlbnaaDoor
open Go Go.RowKit

theorem excE_iff (n m : Int) : excE n m = 0 ↔ 1 ≤ n ∧ n ≤ m := by
  unfold excE
  split
  · omega
  · split <;> omega
/-- What parts do. -/
def Parts (p : Py) (op n m : Int) : Prop :=
  (¬ payE p op n = 0 → ¬ payE p op (n + m) = 0) ∧ (payE p op n = 0 → ((payE p op (n + m) = 0 ↔ payE (payP p op n) op m = 0) ∧ payR p op (n + m) = payR (payP p op n) op m))
theorem parts_of {p : Py} {op n m : Int} (h1 : payE p op (n + m) = 0 → payE p op n = 0) (h2 : payE p op n = 0 → (payE p op (n + m) = 0 ↔ payE (payP p op n) op m = 0)) (h3 : payE p op n = 0 → payE p op (n + m) = 0 → payP p op (n + m) = payP (payP p op n) op m) : Parts p op n m := by
  refine ⟨fun h h' => h (h1 h'), fun h => ⟨h2 h, ?_⟩⟩
  unfold payR
  by_cases hE : payE p op (n + m) = 0
  · rw [if_pos hE, if_pos ((h2 h).1 hE)]
    exact h3 h hE
  · rw [if_neg hE, if_neg fun h' => hE ((h2 h).2 h')]

theorem parts_4 {p : Py} (h : p.right) {n m : Int} (hn : 1 ≤ n ∧ n ≤ 256) (hm : 1 ≤ m ∧ m ≤ 256) : Parts p 4 n m := by
  have e4 : ∀ (q : Py) (x : Int), payE q 4 x = excE x (leftP q) := fun q x => by unfold payE; rw [if_pos rfl]
  have hl := h.left
  have key : payE p 4 n = 0 → (p.stg = 0 ∧ p.cap + n ≤ p.aut ∧ payP p 4 n = ⟨p.frm, p.dst, p.aut, p.cap + n, p.ref, p.chg, p.til, if p.cap + n = p.aut then 1 else 0⟩ ∧ leftP (payP p 4 n) = p.aut - (p.cap + n)) := by
    intro he
    have hr := (h.stays he).1
    have h1 := (excE_iff _ _).1 ((e4 p n).symm.trans he)
    rw [hl] at h1
    have hs : p.stg = 0 := by
      by_cases hs : p.stg = 0
      · exact hs
      · rw [if_neg hs] at h1; omega
    rw [if_pos hs] at h1
    unfold Py.right backOk at h
    have hp : payP p 4 n = ⟨p.frm, p.dst, p.aut, p.cap + n, p.ref, p.chg, p.til, if p.cap + n = p.aut then 1 else 0⟩ := by
      unfold payP
      rw [if_pos rfl, w64 (by omega) (by omega), hs]
    refine ⟨hs, by omega, hp, ?_⟩
    rw [hr.left, hp]
    dsimp only
    by_cases hc : p.cap + n = p.aut
    · rw [if_pos hc, if_neg (show ¬ (1 : Int) = 0 by decide)]; omega
    · rw [if_neg hc, if_pos rfl]
  have hl2 : leftP p = if p.stg = 0 then p.aut - p.cap else 0 := hl
  refine parts_of ?_ ?_ ?_
  · intro he
    rw [e4, excE_iff] at he ⊢
    omega
  · intro he
    obtain ⟨hs, hc, hp, hL⟩ := key he
    rw [e4, e4, excE_iff, excE_iff, hL, hl2, if_pos hs]
    omega
  · intro he he'
    obtain ⟨hs, hc, hp, hL⟩ := key he
    rw [e4, excE_iff, hl2, if_pos hs] at he'
    unfold Py.right backOk at h
    rw [hp]
    unfold payP
    dsimp only
    rw [if_pos rfl, if_pos rfl, w64 (x := p.cap + (n + m)) (by omega) (by omega), w64 (x := p.cap + n + m) (by omega) (by omega), if_neg (show ¬ p.cap + n = p.aut by omega), hs, show p.cap + (n + m) = p.cap + n + m by omega]
theorem parts_6 {p : Py} (h : p.right) {n m : Int} (hn : 1 ≤ n ∧ n ≤ 256) (hm : 1 ≤ m ∧ m ≤ 256) : Parts p 6 n m := by
  have e4 : ∀ (q : Py) (x : Int), payE q 6 x = excE x (gaveP q) := fun q x => by unfold payE; rw [if_neg (show ¬ (6 : Int) = 4 by decide), if_neg (show ¬ (6 : Int) = 5 by decide), if_pos rfl]
  have hg := h.gave
  have key : payE p 6 n = 0 → (payP p 6 n = ⟨p.frm, p.dst, p.aut, p.cap, p.ref + n, p.chg, p.til, p.stg⟩ ∧ gaveP (payP p 6 n) = p.cap - p.ref - p.chg - n) := by
    intro he
    have hr := (h.stays he).1
    have h1 := (excE_iff _ _).1 ((e4 p n).symm.trans he)
    rw [hg] at h1
    unfold Py.right backOk at h
    have hp : payP p 6 n = ⟨p.frm, p.dst, p.aut, p.cap, p.ref + n, p.chg, p.til, p.stg⟩ := by
      unfold payP
      rw [if_neg (show ¬ (6 : Int) = 4 by decide), if_neg (show ¬ (6 : Int) = 5 by decide), if_pos rfl, w64 (by omega) (by omega)]
    refine ⟨hp, ?_⟩
    rw [hr.gave, hp]
    dsimp only
    omega
  refine parts_of ?_ ?_ ?_
  · intro he
    rw [e4, excE_iff] at he ⊢
    omega
  · intro he
    obtain ⟨hp, hL⟩ := key he
    rw [e4, e4, excE_iff, excE_iff, hL, hg]
    omega
  · intro he he'
    obtain ⟨hp, hL⟩ := key he
    rw [e4, excE_iff, hg] at he'
    unfold Py.right backOk at h
    rw [hp]
    unfold payP
    dsimp only
    rw [if_neg (show ¬ (6 : Int) = 4 by decide), if_neg (show ¬ (6 : Int) = 5 by decide), if_pos rfl, if_neg (show ¬ (6 : Int) = 4 by decide), if_neg (show ¬ (6 : Int) = 5 by decide), if_pos rfl, w64 (x := p.ref + (n + m)) (by omega) (by omega), w64 (x := p.ref + n + m) (by omega) (by omega), show p.ref + (n + m) = p.ref + n + m by omega]
theorem parts_7 {p : Py} (h : p.right) {n m : Int} (hn : 1 ≤ n ∧ n ≤ 256) (hm : 1 ≤ m ∧ m ≤ 256) : Parts p 7 n m := by
  have e4 : ∀ (q : Py) (x : Int), payE q 7 x = excE x (gaveP q) := fun q x => by unfold payE; rw [if_neg (show ¬ (7 : Int) = 4 by decide), if_neg (show ¬ (7 : Int) = 5 by decide), if_neg (show ¬ (7 : Int) = 6 by decide), if_pos rfl]
  have hg := h.gave
  have key : payE p 7 n = 0 → (payP p 7 n = ⟨p.frm, p.dst, p.aut, p.cap, p.ref, p.chg + n, p.til, p.stg⟩ ∧ gaveP (payP p 7 n) = p.cap - p.ref - p.chg - n) := by
    intro he
    have hr := (h.stays he).1
    have h1 := (excE_iff _ _).1 ((e4 p n).symm.trans he)
    rw [hg] at h1
    unfold Py.right backOk at h
    have hp : payP p 7 n = ⟨p.frm, p.dst, p.aut, p.cap, p.ref, p.chg + n, p.til, p.stg⟩ := by
      unfold payP
      rw [if_neg (show ¬ (7 : Int) = 4 by decide), if_neg (show ¬ (7 : Int) = 5 by decide), if_neg (show ¬ (7 : Int) = 6 by decide), if_pos rfl, w64 (by omega) (by omega)]
    refine ⟨hp, ?_⟩
    rw [hr.gave, hp]
    dsimp only
    omega
  refine parts_of ?_ ?_ ?_
  · intro he
    rw [e4, excE_iff] at he ⊢
    omega
  · intro he
    obtain ⟨hp, hL⟩ := key he
    rw [e4, e4, excE_iff, excE_iff, hL, hg]
    omega
  · intro he he'
    obtain ⟨hp, hL⟩ := key he
    rw [e4, excE_iff, hg] at he'
    unfold Py.right backOk at h
    rw [hp]
    unfold payP
    dsimp only
    rw [if_neg (show ¬ (7 : Int) = 4 by decide), if_neg (show ¬ (7 : Int) = 5 by decide), if_neg (show ¬ (7 : Int) = 6 by decide), if_pos rfl, if_neg (show ¬ (7 : Int) = 4 by decide), if_neg (show ¬ (7 : Int) = 5 by decide), if_neg (show ¬ (7 : Int) = 6 by decide), if_pos rfl, w64 (x := p.chg + (n + m)) (by omega) (by omega), w64 (x := p.chg + n + m) (by omega) (by omega), show p.chg + (n + m) = p.chg + n + m by omega]
end Go.Proofs.YtenghafnpmlbnaaDoor
