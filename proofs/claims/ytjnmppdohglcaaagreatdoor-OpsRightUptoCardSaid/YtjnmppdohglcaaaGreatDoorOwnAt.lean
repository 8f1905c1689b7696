/-
  A slice of integers that is the call's own: its cells, that none is frozen, and what a store into one leaves. Of any program.
-/
import Derived.Test.YtjnmppdohglcaaaGreatDoorGrA
namespace Go.Proofs.YtjnmppdohglcaaaGreatDoor
open Go Go.RowKit

section
variable {k : IntKind} {w : World} {n cap base g : Nat} {zs : List Int} {e : TypeId} {v : Value}

theorem Own.open_ (h : Own e k w base v n zs) (hn : 0 < n) : ∃ g cap, v = .slice (some ⟨g, 0, none⟩) n cap ∧ base ≤ g ∧ g < w.heap.size ∧ n ≤ cap ∧ cap ≤ maxLen := by
  rcases h.2 with ⟨_, h0⟩ | ⟨g, cap, cur, hv, hb, hg, hnc, hcm, _⟩
  · omega
  · exact ⟨g, cap, hv, hb, (Array.getElem?_eq_some_iff.1 hg).1, hnc, hcm⟩
theorem Own.cell (h : Own e k w base (.slice (some ⟨g, 0, none⟩) n cap) n zs) {j : Nat} (hj : j < n) : w.cell? ⟨g, j, none⟩ = some (.int k (zs.getD j 0)) := by
  have h1 := World.ownsRow.cellAt h j (by omega)
  have hl := h.len
  rw [h1, List.getElem?_map, List.getElem?_eq_getElem (by omega)]
  simp [List.getD, List.getElem?_eq_getElem (show j < zs.length by omega)]
theorem Own.unfrozen (h : Own e k w base (.slice (some ⟨g, 0, none⟩) n cap) n zs) (j : Nat) : w.frozen? ⟨g, j, none⟩ = false := World.ownsRow.frozenAt h j
theorem Own.set (h : Own e k w base (.slice (some ⟨g, 0, none⟩) n cap) n zs) (j : Nat) (x : Int) : Own e k (w.setCell ⟨g, j, none⟩ (.int k x)) base (.slice (some ⟨g, 0, none⟩) n cap) n (zs.set j x) := by
  have h1 := World.ownsRow.stored h j (.int k x)
  unfold Own
  rw [List.map_set]
  exact h1.1
end
end Go.Proofs.YtjnmppdohglcaaaGreatDoor
