/-
  One payment more among the others: the plain words.
-/
import Derived.Test.YtdepidemciigkaaDuePlain
namespace Go.Proofs.Ytdepidemciigkaa
open Go Go.RowKit
set_option linter.unusedVariables false

/-- Those that were there before. -/
def restL (n : Nat) (l : List Int) : List Int := l.filter fun k => decide (k < (n : Int))
theorem restL_snoc (n : Nat) (l : List Int) (a : Int) : restL n (l ++ [a]) = restL n l ++ (if a < (n : Int) then [a] else []) := by
  unfold restL
  rw [List.filter_append]
  by_cases h : a < (n : Int) <;> simp [h]
theorem restL_len (n : Nat) (l : List Int) : (restL n l).length ≤ l.length := List.length_filter_le _ _
theorem getD_more {ps : List Py} {q : Py} {k : Nat} (h : k < ps.length) : (ps ++ [q]).getD k Py.zero = ps.getD k Py.zero := by
  simp [List.getD, List.getElem?_append_left h]
theorem tilP_more {ps : List Py} {q : Py} {k : Nat} (h : k < ps.length) : tilP (ps ++ [q]) (k : Int) = tilP ps (k : Int) := by
  rw [tilP_nat, tilP_nat, getD_more h]
theorem DueIs.rest {ps : List Py} {q : Py} {out : List Int} (h : DueIs (ps ++ [q]) out) : DueIs ps (restL ps.length out) where
  once := h.once.filter _
  order := by
    have h1 : (restL ps.length out).Pairwise fun a b => dlt (ps ++ [q]) b a = false := List.Pairwise.filter _ h.order
    refine List.Pairwise.imp_of_mem (fun {a b} ha hb hab => ?_) h1
    have hin : ∀ x ∈ restL ps.length out, ∃ k : Nat, k < ps.length ∧ x = (k : Int) := fun x hx => by
      unfold restL at hx
      rw [List.mem_filter] at hx
      obtain ⟨k, _, e, _⟩ := (h.mem x).1 hx.1
      have := hx.2
      rw [e] at this
      simp at this
      exact ⟨k, this, e⟩
    obtain ⟨i, hi, rfl⟩ := hin a ha
    obtain ⟨j, hj, rfl⟩ := hin b hb
    rw [dlt_false, tilP_more hi, tilP_more hj] at hab
    rw [dlt_false]
    exact hab
  mem := fun a => by
    unfold restL
    rw [List.mem_filter, h.mem]
    unfold isOpen
    constructor
    · rintro ⟨⟨k, _, rfl, hs⟩, hk⟩
      simp at hk
      exact ⟨k, hk, rfl, by rw [getD_more hk] at hs; exact hs⟩
    · rintro ⟨k, hk, rfl, hs⟩
      exact ⟨⟨k, by rw [List.length_append, List.length_singleton]; omega, rfl, by rw [getD_more hk]; exact hs⟩, by simpa using hk⟩
theorem getD_last (ps : List Py) (q : Py) : (ps ++ [q]).getD ps.length Py.zero = q := by simp [List.getD]
theorem DueIs.more {ps : List Py} {q : Py} {out : List Int} (h : DueIs (ps ++ [q]) out) (hs : q.stg = 0) : (restL ps.length out).length < out.length := by
  have hin : ((ps.length : Nat) : Int) ∈ out := (h.mem _).2 ⟨ps.length, by simp, rfl, by rw [getD_last]; exact hs⟩
  unfold restL
  exact List.length_filter_lt_length_iff_exists.2 ⟨_, hin, by simp⟩
theorem DueIs.no_more {ps : List Py} {q : Py} {out : List Int} (h : DueIs (ps ++ [q]) out) (hs : ¬ q.stg = 0) : restL ps.length out = out := by
  unfold restL
  rw [List.filter_eq_self]
  intro a ha
  obtain ⟨k, hk, rfl, ho⟩ := (h.mem a).1 ha
  rw [List.length_append, List.length_singleton] at hk
  have hne : k ≠ ps.length := fun e => by subst e; rw [getD_last] at ho; exact hs ho
  simp
  omega
end Go.Proofs.Ytdepidemciigkaa
