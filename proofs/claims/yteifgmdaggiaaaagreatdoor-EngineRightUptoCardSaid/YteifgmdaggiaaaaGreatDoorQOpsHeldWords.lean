/-
  What held wants: a row of zeros; a payment's part of what is held.
-/
import Derived.Test.YteifgmdaggiaaaaGreatDoorQGrG
import Derived.Test.YteifgmdaggiaaaaGreatDoorQGrM
namespace Go.Proofs.YteifgmdaggiaaaaGreatDoor
open Go Go.RowKit
set_option linter.unusedVariables false
theorem info_w64 : (Tryz.prog.info? 3).map (fun i => (i.zero, i.size, i.bytes)) = some (some (.int .i64 0), 1, 8) := by kernel_rfl
theorem run_make_words (n : Nat) (hn : n ≤ 1000000) (W : World) : (Instr.makeSlice 64 (.int .i64 (n : Int)) (.int .i64 (n : Int))).run Tryz.prog W = .ok (.slice (some ⟨W.heap.size, 0, none⟩) n n) (W.alloc (.cells (madeCells #[.int .i64 0] n) 3)) := by
 obtain ⟨i0, hi, hz0, hz1, hz2⟩ := info_parts info_w64
 have h := run_make (P := Tryz.prog) W 64 3 i0 (.int .i64 0) Tryz.underlying64 hi hz0 .i64 .i64 (n : Int) (n : Int) (by omega) (by omega) (by rw [hz2]; omega) (by omega)
 rw [hz1] at h
 have e2 : ((n : Int)).toNat = n := by omega
 rw [e2, Nat.mul_one] at h
 exact h
theorem own_words (w : World) (n : Nat) (hn : n ≤ maxLen) : Own 3 .i64 (w.alloc (.cells (madeCells #[.int .i64 0] n) 3)) w.heap.size (.slice (some ⟨w.heap.size, 0, none⟩) n n) n (List.replicate n 0) := by
 unfold Own
 have e : (List.replicate n (0 : Int)).map (Value.int .i64) = (madeCells #[.int .i64 0] n).toList := by
  refine List.ext_getElem? fun j => ?_
  by_cases hj : j < n
  · simp [madeCells, hj, Nat.mod_one]
  · simp [madeCells, hj]
 rw [e]
 exact World.ownsRow_lit w _ n (Nat.le_refl _) hn (by rw [size_madeCells, Nat.mul_one])
theorem hsum_take {ps : List Py} {j : Nat} {p : Py} (k : Nat) (hp : ps[j]? = some p) : hsum k (ps.take (j + 1)) = hsum k (ps.take j) + hpart k p := by
 rw [List.take_add_one, hp, hsum_append, Option.toList_some, hsum_cons]
 show _ + (hpart k p + 0) = _
 omega
theorem Ok.part {s : St} (h : Ok s) {j f : Nat} {p : Py} (hp : s.pys[j]? = some p) (hf : f < s.acs.length) : 0 ≤ hsum f (s.pys.take j) ∧ 0 ≤ hpart f p ∧ hsum f (s.pys.take j) + hpart f p ≤ 1125899906842624 := by
 obtain ⟨a, ha⟩ : ∃ a, s.acs[f]? = some a := ⟨_, List.getElem?_eq_getElem hf⟩
 obtain ⟨r1, r2, r3, r4⟩ := right_at h.right ha
 have hh := h.held f a ha
 unfold isMay at r2
 have hc : ∀ x ∈ s.pys, x.cap ≤ x.aut := fun x hx => (h.pays x hx).1.2.1.2
 have h1 := hsum_nn f (s.pys.take j) fun x hx => hc x (List.mem_of_mem_take hx)
 have h2 := hpart_nn f (hc p (List.mem_of_getElem? hp))
 have h3 := hsum_nn f (s.pys.drop (j + 1)) fun x hx => hc x (List.mem_of_mem_drop hx)
 have e : hsum f s.pys = hsum f (s.pys.take (j + 1)) + hsum f (s.pys.drop (j + 1)) := by rw [← hsum_append, List.take_append_drop]
 rw [hsum_take f hp] at e
 refine ⟨h1, h2, ?_⟩
 omega
end Go.Proofs.YteifgmdaggiaaaaGreatDoor
