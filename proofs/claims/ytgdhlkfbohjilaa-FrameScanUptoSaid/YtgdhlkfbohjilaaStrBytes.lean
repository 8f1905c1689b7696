/-
  []byte(s): new memory with a string's bytes, none of it frozen; a store into one of its cells.
-/
import Derived.Test.YtgdhlkfbohjilaaBytes
import Derived.Laws.IdiomStrings
namespace Go.Proofs.Ytgdhlkfbohjilaa
open Go.RowKit

theorem addr_add (g j : Nat) : (⟨g, 0, none⟩ : Addr).add j = ⟨g, j, none⟩ := by
  unfold Addr.add
  split
  · rename_i h; rw [h]
  · simp
theorem strN_data (xs : List Nat) : (strN xs).data.toList = xs.map fun x => UInt8.ofNat x := by
  simp [strN, strOfNums, ints, List.map_map, Function.comp_def]

theorem bytesRow_at (xs : List Nat) (hx : ∀ x ∈ xs, x < 256) (c j : Nat) (hj : j < xs.length) : (bytesRow (strN xs) c)[j]? = some (.int .u8 ((ints xs).getD j 0)) := by
  have hs := strN_size xs
  have hd : (strN xs).data[j]? = some (UInt8.ofNat xs[j]) := by
    rw [← Array.getElem?_toList, strN_data, List.getElem?_map, List.getElem?_eq_getElem hj]
    rfl
  have hsz : j < (strN xs).data.size := by
    have : (strN xs).data.size = (strN xs).size := rfl
    omega
  unfold bytesRow
  rw [Array.getElem?_append_left (by simpa using hsz), Array.getElem?_map, hd]
  have h8 := hx _ (List.getElem_mem hj)
  rw [ints_getD]
  have h9 : xs.getD j 0 = xs[j] := by simp [List.getD, hj]
  rw [h9]
  simp
  omega

theorem run_bytes (w : World) (xs : List Nat) (hx : ∀ x ∈ xs, x < 256) (hn : xs.length ≤ maxLen) :
    ∃ c W', (convert 9 22 (.string (strN xs))).run Try.prog w = .ok (.slice (some ⟨w.heap.size, 0, none⟩) xs.length c) W' ∧ xs.length ≤ c ∧ c ≤ maxLen ∧ W'.heap.size = w.heap.size + 1 ∧ Below w.heap.size w W' ∧
      Rd .u8 W' (some ⟨w.heap.size, 0, none⟩) xs.length (ints xs) ∧ ∀ j, j < xs.length → W'.frozen? ⟨w.heap.size, j, none⟩ = false := by
  have h := run_bytes_of_string (P := Try.prog) w 9 22 5 (strN xs) Try.underlying9 Try.underlying22 Try.underlying5
  rw [strN_size] at h
  obtain ⟨c, hc⟩ : ∃ c, c = grownCap w xs.length 0 5 := ⟨_, rfl⟩
  have h1 := grownCap_ge w xs.length 0 5
  have h2 := grownCap_le_maxLen w xs.length 0 5 hn
  rw [← hc] at h h1 h2
  have hrow : xs.length ≤ (bytesRow (strN xs) c).size := by
    have : (strN xs).data.size = (strN xs).size := rfl
    simp [bytesRow, this, strN_size]
  have hh : ∀ o : Obj, (w.drew.alloc o).heap[w.heap.size]? = some o := fun o => by show (w.heap.push o)[w.heap.size]? = _; simp
  refine ⟨c, _, h, h1, h2, by simp, (Below.refl _ _).drew.alloc (Nat.le_refl _) _, ⟨ints_length _, fun _ => ⟨_, rfl, fun j hj => ?_⟩⟩, fun j hj => ?_⟩
  · have hb := bytesRow_at xs hx c j hj
    rw [addr_add]
    unfold World.cell?
    rw [hh]
    exact hb
  · unfold World.frozen?
    simp only [hh]
    simp
    omega

theorem Rd.set {k : IntKind} {w : World} {g n : Nat} {zs : List Int} (h : Rd k w (some ⟨g, 0, none⟩) n zs) (j : Nat) (x : Int) : Rd k (w.setCell ⟨g, j, none⟩ (.int k x)) (some ⟨g, 0, none⟩) n (zs.set j x) := by
  refine ⟨by rw [List.length_set]; exact h.1, fun hn => ?_⟩
  obtain ⟨ad, he, hc⟩ := h.2 hn
  injection he with he
  subst he
  refine ⟨_, rfl, fun i hi => ?_⟩
  have hci := hc i hi
  have hl := h.1
  rw [addr_add] at hci ⊢
  by_cases hij : j = i
  · subst hij
    rw [World.cell?_setCell_same _ _ _ hci]
    simp [List.getD, hl, hi]
  · rw [World.cell?_setCell_other _ _ _ _ (by intro h; injection h; contradiction), hci]
    simp [List.getD, hij]
end Go.Proofs.Ytgdhlkfbohjilaa
