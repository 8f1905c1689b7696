/-
  A slice of slices of integers that came in; of bytes: as a list of lists.
-/
import Derived.Test.YtopogffoiofgbaaRowArg
import Derived.Test.YtopogffoiofgbaaRowsOf
import Derived.Deep.Matrix
namespace Go.Proofs.Ytopogffoiofgbaa
open Go.RowKit Go.ChangeShapes

/-- A slice of slices of integers: it is nil; or it leads to a row of slices. -/
def IsRows (k : IntKind) (w : World) (a : Option Addr) (len cap : Nat) : Prop :=
  (a = none ∧ len = 0 ∧ cap = 0) ∨
  ∃ x, a = some x ∧ len ≤ cap ∧ cap ≤ maxLen ∧ ∀ r, r < cap → ∃ A L C Z, w.cell? (x.add r) = some (.slice A L C) ∧ IsRow k w A L C Z

theorem isRows_of {H : Type} {k : IntKind} {w : World} {a : Option Addr} {len cap : Nat} {x : DataW H × List MemPlace}
    (h : ((Value.slice a len cap).cells.toList = [.slice none 0 0] ∧ x = (.nil, [])) ∨
    ∃ (ad : Addr) (l c : Nat) (A : Nat → Option Addr) (L C : Nat → Nat) (Z : Nat → List Int), (Value.slice a len cap).cells.toList = [.slice (some ad) l c] ∧ 0 ≤ ad.block ∧ l ≤ c ∧ c ≤ maxLen ∧
      x = (.slice ((List.range l).map fun r => Go.Deep.intRow k (A r) (L r) (Z r)) ((List.range (c - l)).map fun j => Go.Deep.intRow k (A (l + j)) (L (l + j)) (Z (l + j))), MemPlace.row ad c ++ (List.range c).flatMap fun r => Go.Deep.intRowPlaces (A r) (Z r)) ∧
      ∀ r, r < c → w.cell? (ad.add r) = some (.slice (A r) (L r) (C r)) ∧ L r ≤ C r ∧ C r ≤ maxLen ∧ (Z r).length = C r ∧ (∀ n ∈ Z r, (Lit.int k n).wf = true) ∧ (A r = none → C r = 0) ∧
        ∀ a', A r = some a' → 0 ≤ a'.block ∧ ∀ i, i < C r → w.cell? (a'.add i) = some (.int k ((Z r).getD i 0))) : IsRows k w a len cap := by
  rcases h with ⟨hcs, _⟩ | ⟨ad, l, c, A, L, C, Z, hcs, _, hl, hm, _, hrow⟩
  · simp [Value.cells] at hcs
    exact .inl hcs
  · simp [Value.cells] at hcs
    obtain ⟨rfl, rfl, rfl⟩ := hcs
    refine .inr ⟨ad, rfl, hl, hm, fun r hr => ?_⟩
    obtain ⟨h1, h2, h3, h4, h5, h6, h7⟩ := hrow r hr
    refine ⟨A r, L r, C r, Z r, h1, ?_⟩
    cases hA : A r with
    | none =>
      have h0 := h6 hA
      exact .inl ⟨rfl, by omega, h0, List.eq_nil_of_length_eq_zero (by omega)⟩
    | some a' => exact .inr ⟨a', rfl, h2, h3, h4, fun i hi => (h7 a' hA).2 i (by omega), h5⟩

theorem rows_bytes {w : World} {a : Option Addr} {len cap : Nat} (h : IsRows .u8 w a len cap) :
    ∃ rs : List (List Nat), rs.length = len ∧ RdRows w a rs ∧ (∀ r ∈ rs, ∀ x ∈ r, x < 256) ∧ len ≤ cap ∧ cap ≤ maxLen := by
  rcases h with ⟨rfl, rfl, rfl⟩ | ⟨ad, rfl, hl, hm, hrow⟩
  · exact ⟨[], rfl, RdRows.nil, by simp, Nat.le_refl _, Nat.zero_le _⟩
  · have each : ∀ r, ∃ xs : List Nat, r < len → (∃ u, w.cell? (ad.add r) = some u ∧ RowAt w u xs) ∧ ∀ x ∈ xs, x < 256 := by
      intro r
      by_cases hr : r < len
      · obtain ⟨A, L, C, Z, hc, hi⟩ := hrow r (by omega)
        obtain ⟨xs, hrd, hxl, hx, h1, h2⟩ := row_bytes hi
        exact ⟨xs, fun _ => ⟨⟨_, hc, A, C, by rw [hxl], by rw [hxl]; exact h1, h2, by rw [hxl]; exact hrd⟩, hx⟩⟩
      · exact ⟨[], fun h => absurd h hr⟩
    let f := fun r => (each r).choose
    have hf : ∀ r, r < len → (∃ u, w.cell? (ad.add r) = some u ∧ RowAt w u (f r)) ∧ ∀ x ∈ f r, x < 256 := fun r hr => (each r).choose_spec hr
    refine ⟨(List.range len).map f, by simp, fun _ => ⟨ad, rfl, fun j r hj => ?_⟩, fun r hr => ?_, hl, hm⟩
    · rw [List.getElem?_map] at hj
      by_cases hjl : j < len
      · rw [List.getElem?_range hjl] at hj
        simp at hj
        subst hj
        exact (hf j hjl).1
      · simp [hjl] at hj
    · obtain ⟨j, hj, rfl⟩ := List.mem_map.1 hr
      exact (hf j (List.mem_range.1 hj)).2
end Go.Proofs.Ytopogffoiofgbaa
