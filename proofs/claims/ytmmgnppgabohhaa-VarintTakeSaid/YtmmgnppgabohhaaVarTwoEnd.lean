/-
  Strings of bytes: they are the same just if their bytes are; one that begins another.
-/
import Derived.Laws.Strings
import Derived.Test.YtmmgnppgabohhaaVarGetLaw
namespace Go.Proofs.Ytmmgnppgabohhaa
open Go.RowKit
theorem strN_inj {x y : List Nat} (hx : ∀ c ∈ x, c < 256) (hy : ∀ c ∈ y, c < 256) (h : strN x = strN y) : x = y := by
  have h1 : (strN x).data.toList = (strN y).data.toList := by rw [h]
  have e : ∀ (l : List Nat), (∀ c ∈ l, c < 256) → ((strN l).data.toList).map UInt8.toNat = l := by
    intro l hl
    simp only [strN, strOfNums, ints, List.map_map]
    conv => rhs; rw [← List.map_id l]
    apply List.map_congr_left
    intro c hc
    have := hl c hc
    simp
    omega
  rw [← e x hx, ← e y hy, h1]
theorem strN_list (x : List Nat) : (strN x).toList = x.map UInt8.ofNat := by
  rw [ByteArray.toList_eq, strN, strOfNums_data]
  simp [ints, List.map_map, Function.comp_def]
theorem bytes_map_inj {x y : List Nat} (hx : ∀ c ∈ x, c < 256) (hy : ∀ c ∈ y, c < 256) (h : x.map UInt8.ofNat = y.map UInt8.ofNat) : x = y := by
  have e : ∀ (l : List Nat), (∀ c ∈ l, c < 256) → (l.map UInt8.ofNat).map UInt8.toNat = l := by
    intro l hl
    rw [List.map_map]
    conv => rhs; rw [← List.map_id l]
    apply List.map_congr_left
    intro c hc
    have := hl c hc
    simp
    omega
  rw [← e x hx, ← e y hy, h]
theorem str_ne {x y : List Nat} (hx : ∀ c ∈ x, c < 256) (hy : ∀ c ∈ y, c < 256) (h : x ≠ y) : ((strN x).toList == (strN y).toList) = false := by
  rw [strN_list, strN_list]
  refine beq_eq_false_iff_ne.2 fun e => h (bytes_map_inj hx hy e)
theorem str_front {x y : List Nat} (hx : ∀ c ∈ x, c < 256) (hy : ∀ c ∈ y, c < 256) (h : ∀ r, y ≠ x ++ r) : (((strN y).extract 0 x.length).toList == (strN x).toList) = false := by
  have e1 : ((strN y).extract 0 x.length).toList = (y.take x.length).map UInt8.ofNat := by
    rw [ByteArray.toList_eq, ByteArray.data_extract, Array.toList_extract, ← ByteArray.toList_eq, strN_list]
    simp
  rw [e1, strN_list]
  refine beq_eq_false_iff_ne.2 fun e => ?_
  have := bytes_map_inj (fun c hc => hy c (List.mem_of_mem_take hc)) hx e
  exact h (y.drop x.length) (by conv => rhs; rw [← this]
                                rw [this]; exact (List.take_append_drop x.length y).symm.trans (by rw [this]))
end Go.Proofs.Ytmmgnppgabohhaa
