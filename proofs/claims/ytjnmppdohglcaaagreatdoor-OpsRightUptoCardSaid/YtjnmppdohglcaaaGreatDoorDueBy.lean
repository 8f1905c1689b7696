/-
  Those whose time is over: plain words.
-/
import Derived.Test.YtjnmppdohglcaaaGreatDoorDueByL
namespace Go.Proofs.YtjnmppdohglcaaaGreatDoor
open Go Go.RowKit
set_option linter.unusedVariables false

theorem byL_nil (ps : List Py) (now : Int) : byL ps now [] = [] := rfl
theorem byL_cons (ps : List Py) (now : Int) (a : Int) (l : List Int) : byL ps now (a :: l) = if tilP ps a ≤ now then a :: byL ps now l else [] := by
  unfold byL
  rw [List.takeWhile_cons]
  by_cases h : tilP ps a ≤ now <;> simp [h]
theorem byL_len (ps : List Py) (now : Int) : ∀ l, (byL ps now l).length ≤ l.length := by
  intro l
  induction l with
  | nil => simp [byL_nil]
  | cons a l ih => rw [byL_cons]; split <;> simp <;> omega
/-- An earlier time's are the first of a later one's. -/
theorem byL_le {ps : List Py} {a b : Int} (h : a ≤ b) : ∀ l, (byL ps b l).take (byL ps a l).length = byL ps a l := by
  intro l
  induction l with
  | nil => rfl
  | cons x l ih =>
    rw [byL_cons, byL_cons]
    by_cases h1 : tilP ps x ≤ a
    · rw [if_pos h1, if_pos (by omega), List.length_cons, List.take_succ_cons, ih]
    · rw [if_neg h1]; simp
theorem byL_le_len {ps : List Py} {a b : Int} (h : a ≤ b) (l : List Int) : (byL ps a l).length ≤ (byL ps b l).length := by
  have := congrArg List.length (byL_le (ps := ps) h l)
  rw [List.length_take] at this
  omega
/-- In order they are those of all whose time is over. -/
theorem byL_filter {ps : List Py} {now : Int} : ∀ l, InOrder (dlt ps) l → l.filter (fun k => decide (tilP ps k ≤ now)) = byL ps now l := by
  intro l
  induction l with
  | nil => intro _; rfl
  | cons x l ih =>
    intro h
    obtain ⟨h1, h2⟩ := List.pairwise_cons.1 h
    rw [byL_cons]
    by_cases hx : tilP ps x ≤ now
    · rw [if_pos hx, List.filter_cons_of_pos (by simpa using hx), ih h2]
    · rw [if_neg hx, List.filter_eq_nil_iff.2]
      intro y hy
      rcases List.mem_cons.1 hy with rfl | hy
      · simpa using hx
      · have := dlt_false.1 (h1 y hy)
        simp
        omega
theorem byL_none {ps : List Py} {now : Int} {l : List Int} (h : ∀ a r, l = a :: r → now < tilP ps a) : byL ps now l = [] := by
  cases l with
  | nil => rfl
  | cons a r => rw [byL_cons, if_neg (by have := h a r rfl; omega)]
end Go.Proofs.YtjnmppdohglcaaaGreatDoor
