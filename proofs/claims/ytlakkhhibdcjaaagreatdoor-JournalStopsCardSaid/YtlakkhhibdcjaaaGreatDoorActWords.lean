/-
  Small words of the laws over Acts: where an Act's cells lie, how many bytes its records take, what a journal's files come to.
-/
import Derived.Test.YtlakkhhibdcjaaaGreatDoorJourStrs
import Derived.Test.YtlakkhhibdcjaaaGreatDoorActFew
namespace Go.Proofs.YtlakkhhibdcjaaaGreatDoor
open Go Go.RowKit Go.Maps
set_option linter.unusedVariables false

theorem add_next (ad : Addr) (n j : Nat) (hj : 0 < j) : ad.add (n + j) = ⟨(ad.add n).block, (ad.add n).off + j, none⟩ := by
  unfold Addr.add
  rw [if_neg (by omega)]
  by_cases hn : n = 0
  · subst hn; simp
  · simp [hn]; omega

theorem RdRowsR.lt {R : Nat → Prop} {w : World} {A : Option Addr} {rs : List (List Nat)} (h : RdRowsR R w A rs) : RdRowsR (fun i => R i ∧ i < w.heap.size) w A rs := fun hn => by
  obtain ⟨ad, e, hR, hc⟩ := h hn
  obtain ⟨u0, hu0, _⟩ := hc 0 rs[0] (List.getElem?_eq_getElem hn)
  have hlt := World.block_lt_of_cell? w _ hu0
  rw [add_block] at hlt
  refine ⟨ad, e, ⟨hR, hlt⟩, fun j r hj => ?_⟩
  obtain ⟨u, hu, ⟨A', c', e', h1, h2, h3⟩, h4⟩ := hc j r hj
  refine ⟨u, hu, ⟨A', c', e', h1, h2, h3⟩, fun B n c ad' he hn' ha => ⟨h4 B n c ad' he hn' ha, ?_⟩⟩
  rw [e'] at he
  injection he with e1 e2 e3
  subst e1 e2
  exact h3.to (c := c) _ _ _ ad' rfl hn' ha
theorem heap_alloc_lt (w : World) (o : Obj) (i : Nat) (h : i < w.heap.size) : (w.alloc o).heap[i]? = w.heap[i]? := by first | exact heap_alloc_old w o i h | exact heap_alloc_old w o h

theorem flat_four {rs : List (List Nat)} (hl : rs.length ≤ 4) (h : ∀ r ∈ rs, r.length ≤ 500) : (flat rs).length ≤ 2024 := by
  have : ∀ qs : List (List Nat), (∀ r ∈ qs, r.length ≤ 500) → (flat qs).length ≤ 506 * qs.length := by
    intro qs
    induction qs with
    | nil => intro _; simp [flat_nil]
    | cons r qs ih =>
      intro h
      have h1 := h r (by simp)
      have h2 := ih fun x hx => h x (by simp [hx])
      rw [flat_cons, List.length_append, fmk_length, List.length_cons]
      omega
  have := this rs h
  omega
theorem jf_grow (t : Nat) (b : List Nat) (o : Option (List (List Nat))) (rs ns : List (List Nat)) (h : o.getD [] = rs) : ptotal (jf t b (some (rs ++ ns))) = ptotal (jf t b o) + (flat ns).length := by
  rw [jf_total, jf_total]
  cases o with
  | none => simp at h; subst h; simp
  | some qs => simp at h; subst h; simp [flat_append]; omega
theorem jf_reset (t : Nat) (b : List Nat) : ptotal (jf (t + 1) b none) = 6 + (snapRec ((t : Int) + 1) b).length := by
  rw [jf_next]; simp [ptotal, fmk_length]
end Go.Proofs.YtlakkhhibdcjaaaGreatDoor
