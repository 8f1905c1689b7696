/-
  What the bound of a second statement ('Upto') gives of a slice among the arguments.
-/
import Derived.Test.YteifgmdaggiaaaaGreatDoorRows
namespace Go.Proofs.YteifgmdaggiaaaaGreatDoor
open Go
theorem bulk_pos {H : Type} (d : DataW H) : 1 ≤ Rows.uptoBulk d := by
 cases d with
 | lit l => cases l <;> simp [Rows.uptoBulk]
 | nil => simp [Rows.uptoBulk]
 | ptr d => simp [Rows.uptoBulk]
 | slice elems spare => simp [Rows.uptoBulk]
 | agg parts => simp [Rows.uptoBulk]
 | iface t d => simp [Rows.uptoBulk]
 | map entries => simp [Rows.uptoBulk]
 | held h => simp [Rows.uptoBulk]
theorem bulk_len {H : Type} (l : List (DataW H)) : l.length ≤ Rows.uptoBulkAll l := by
 induction l with
 | nil => simp
 | cons x r ih => have := bulk_pos x; simp only [Rows.uptoBulkAll, List.length_cons]; omega
theorem bulk_part {H : Type} {d : DataW H} {l : List (DataW H)} {n : Nat} (h : d ∈ l) (hk : Rows.uptoBulkAll l ≤ n) : Rows.uptoBulk d ≤ n := by
 induction l with
 | nil => cases h
 | cons x r ih =>
   simp only [Rows.uptoBulkAll] at hk
   rcases List.mem_cons.1 h with rfl | h
   · omega
   · exact ih h (by omega)
theorem bulk_slice {H : Type} {elems spare : List (DataW H)} {n : Nat} (h : Rows.uptoBulk (.slice elems spare) ≤ n) : elems.length + spare.length + 1 ≤ n := by
 have h1 := bulk_len elems
 have h2 := bulk_len spare
 simp only [Rows.uptoBulk] at h
 omega
theorem bulk_bound {H : Type} {l : List (DataW H)} (hk : Rows.uptoSmall H l = true) : Rows.uptoBulkAll l ≤ 1048576 := of_decide_eq_true hk
end Go.Proofs.YteifgmdaggiaaaaGreatDoor
