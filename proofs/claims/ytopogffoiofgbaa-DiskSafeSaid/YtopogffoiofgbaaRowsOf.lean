/-
  Slices of slices of bytes: one that reads as a list of lists, one that is the call's own; one row more at its end.
-/
import Derived.Test.YtopogffoiofgbaaListOf
import Derived.Test.YtopogffoiofgbaaInts
namespace Go.Proofs.Ytopogffoiofgbaa
open Go.RowKit

theorem info_row : (Try.prog.info? 29).map (fun i => (i.zero, i.size, i.bytes)) = some (some (.slice none 0 0), 1, 24) := by kernel_rfl

/-- A slice of bytes as a value. -/
def RowAt (w : World) (u : Value) (r : List Nat) : Prop := ∃ A c, u = .slice A r.length c ∧ r.length ≤ c ∧ c ≤ maxLen ∧ Rd .u8 w A r.length (ints r)
/-- .. that does not lie in the block of v. -/
def RowIn (w : World) (v u : Value) (r : List Nat) : Prop := ∃ A c, u = .slice A r.length c ∧ r.length ≤ c ∧ c ≤ maxLen ∧ Rd .u8 w A r.length (ints r) ∧ (0 < r.length → ∀ ad, A = some ad → v.ownBlock ≠ some ad.block)
/-- A slice of rows that reads. -/
def RdRows (w : World) (A : Option Addr) (rs : List (List Nat)) : Prop := 0 < rs.length → ∃ ad, A = some ad ∧ ∀ (j : Nat) r, rs[j]? = some r → ∃ u, w.cell? (ad.add j) = some u ∧ RowAt w u r
/-- A slice of rows that is the call's own (the rows lie elsewhere). -/
def OwnRows (w : World) (base : Nat) (v : Value) (rs : List (List Nat)) : Prop :=
  ∃ vs, w.ownsRow base 29 1 v rs.length vs ∧ ∀ (j : Nat) u r, vs[j]? = some u → rs[j]? = some r → RowIn w v u r

section
variable {w w' : World} {base : Nat} {v v' u : Value} {r : List Nat} {rs : List (List Nat)}

theorem RowIn.at_ (h : RowIn w v u r) : RowAt w u r := by obtain ⟨A, c, h1, h2, h3, h4, _⟩ := h; exact ⟨A, c, h1, h2, h3, h4⟩
theorem RowAt.below (h : RowAt w u r) (hb : Below w.heap.size w w') : RowAt w' u r := by obtain ⟨A, c, h1, h2, h3, h4⟩ := h; exact ⟨A, c, h1, h2, h3, h4.below hb⟩
theorem RowIn.below (h : RowIn w v u r) (hb : Below w.heap.size w w') : RowIn w' v u r := by obtain ⟨A, c, h1, h2, h3, h4, h5⟩ := h; exact ⟨A, c, h1, h2, h3, h4.below hb, h5⟩
theorem RowIn.grew (h : RowIn w v u r) (hg : Grew w w' v v') : RowIn w' v' u r := by
  obtain ⟨A, c, h1, h2, h3, h4, h5⟩ := h
  refine ⟨A, c, h1, h2, h3, ⟨h4.1, fun hn => ?_⟩, fun hn ad he => ?_⟩
  · obtain ⟨ad, he, hc⟩ := h4.2 hn
    exact ⟨ad, he, fun j hj => hg.cell (hc j hj) (by rw [add_block]; exact h5 hn ad he)⟩
  · obtain ⟨ad', he', hc⟩ := h4.2 hn
    obtain rfl : ad = ad' := by rw [he] at he'; injection he'
    have h6 := hg.apart (hc 0 hn) (by rw [add_block]; exact h5 hn ad he)
    rw [add_block] at h6
    exact h6

theorem RdRows.nil {A : Option Addr} : RdRows w A [] := fun h => absurd h (by simp)
theorem RdRows.at_ {A : Option Addr} (h : RdRows w A rs) {j : Nat} (hj : j < rs.length) : ∃ ad B c, A = some ad ∧ w.cell? (ad.add j) = some (.slice B rs[j].length c) ∧ rs[j].length ≤ c ∧ c ≤ maxLen ∧ Rd .u8 w B rs[j].length (ints rs[j]) := by
  obtain ⟨ad, he, hc⟩ := h (by omega)
  obtain ⟨u, hu, B, c, rfl, h1, h2, h3⟩ := hc j rs[j] (List.getElem?_eq_getElem hj)
  exact ⟨ad, B, c, he, hu, h1, h2, h3⟩
theorem RdRows.below {A : Option Addr} (h : RdRows w A rs) (hb : Below w.heap.size w w') : RdRows w' A rs := fun hn => by
  obtain ⟨ad, he, hc⟩ := h hn
  refine ⟨ad, he, fun j r hj => ?_⟩
  obtain ⟨u, hu, hr⟩ := hc j r hj
  exact ⟨u, by rw [hb.cell (World.block_lt_of_cell? w _ hu)]; exact hu, hr.below hb⟩
theorem RdRows.drew {A : Option Addr} (h : RdRows w A rs) : RdRows w.drew A rs := h

theorem OwnRows.nil : OwnRows w base (.slice none 0 0) [] := ⟨[], World.ownsRow_nil w base _ 1, by simp⟩
theorem OwnRows.below (h : OwnRows w base v rs) (hb : Below w.heap.size w w') : OwnRows w' base v rs := by
  obtain ⟨vs, ho, hr⟩ := h
  refine ⟨vs, ⟨ho.1, ?_⟩, fun j u r h1 h2 => (hr j u r h1 h2).below hb⟩
  rcases ho.2 with h | ⟨g, cap, cur, hv, hg, hh, r⟩
  · exact .inl h
  · exact .inr ⟨g, cap, cur, hv, hg, by rw [hb.block g (Array.getElem?_eq_some_iff.1 hh).1]; exact hh, r⟩
theorem OwnRows.drew (h : OwnRows w base v rs) : OwnRows w.drew base v rs := h
theorem OwnRows.rowLt (h : OwnRows w base v rs) : ∀ g, v.ownBlock = some g → base ≤ g ∧ g < w.heap.size := fun g hg => by
  obtain ⟨vs, ho, _⟩ := h
  exact World.ownsRow.lt ho g hg
theorem OwnRows.push {vs : List Value} (ho' : w'.ownsRow base 29 1 v' (rs.length + 1) (vs ++ [u])) (hg : Grew w w' v v')
    (hl : vs.length = rs.length) (hr : ∀ (j : Nat) u r, vs[j]? = some u → rs[j]? = some r → RowIn w v u r) (hn : RowIn w v u r) : OwnRows w' base v' (rs ++ [r]) := by
  refine ⟨vs ++ [u], by rw [List.length_append]; exact ho', fun j u' r' h1 h2 => ?_⟩
  by_cases hj : j < rs.length
  · rw [List.getElem?_append_left (by omega)] at h1 h2
    exact (hr j u' r' h1 h2).grew hg
  · rw [List.getElem?_append_right (by omega)] at h1 h2
    rw [hl] at h1
    cases hk : j - rs.length with
    | zero =>
      rw [hk] at h1 h2
      simp at h1 h2
      subst h1 h2
      exact hn.grew hg
    | succ k =>
      rw [hk] at h1
      simp at h1
theorem OwnRows.form (h : OwnRows w base v rs) : ∃ A cap, v = .slice A rs.length cap ∧ rs.length ≤ cap ∧ cap ≤ maxLen ∧ RdRows w A rs := by
  obtain ⟨vs, ho, hr⟩ := h
  have hl : vs.length = rs.length := by have := ho.1; omega
  have ho0 := ho
  rcases ho.2 with ⟨rfl, h0⟩ | ⟨g, cap, cur, rfl, _, hg, hnc, hcm, _, htake⟩
  · exact ⟨none, 0, by rw [h0], by omega, Nat.zero_le _, fun hn => by omega⟩
  · refine ⟨some ⟨g, 0, none⟩, cap, rfl, hnc, hcm, fun hn => ⟨_, rfl, fun j r hj => ?_⟩⟩
    have hjl : j < rs.length := (List.getElem?_eq_some_iff.1 hj).1
    obtain ⟨u, hu⟩ : ∃ u, vs[j]? = some u := ⟨vs[j]'(by omega), List.getElem?_eq_getElem (by omega)⟩
    exact ⟨u, World.ownsRow.cells ho0 (g := g) rfl j u hu, (hr j u r hu hj).at_⟩
end
end Go.Proofs.Ytopogffoiofgbaa
