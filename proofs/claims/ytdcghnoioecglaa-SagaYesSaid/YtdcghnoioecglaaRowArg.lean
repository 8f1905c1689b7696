/-
  Slices of integers that came in, as lists: bytes as natural numbers, ints as they are.
-/
import Derived.Test.YtdcghnoioecglaaInts
import Derived.Test.YtdcghnoioecglaaBase
namespace Go.Proofs.Ytdcghnoioecglaa
open Go.RowKit

/-- A slice of bytes that came in, as natural numbers. -/
theorem row_bytes {w : World} {a : Option Addr} {len cap : Nat} {zs : List Int} (h : IsRow .u8 w a len cap zs) :
    ∃ xs : List Nat, Rd .u8 w a len (ints xs) ∧ xs.length = len ∧ (∀ x ∈ xs, x < 256) ∧ len ≤ cap ∧ cap ≤ maxLen := by
  rcases h with ⟨rfl, rfl, rfl, rfl⟩ | ⟨x, rfl, hl, hm, hz, hc, hw⟩
  · exact ⟨[], Rd.nil, rfl, by simp, Nat.le_refl _, Nat.zero_le _⟩
  · have hnn : ∀ z ∈ zs, 0 ≤ z ∧ z ≤ 255 := by
      intro z hz
      have h := hw z hz
      simp only [Lit.wf, Bool.and_eq_true, decide_eq_true_eq] at h
      have e1 : IntKind.u8.min = 0 := rfl
      have e2 : IntKind.u8.max = 255 := rfl
      omega
    have hi : ints ((zs.take len).map Int.toNat) = zs.take len := by
      unfold ints
      rw [List.map_map]
      conv => rhs; rw [← List.map_id (zs.take len)]
      apply List.map_congr_left
      intro z hz
      have := hnn z (List.mem_of_mem_take hz)
      simp
      omega
    have hll : (zs.take len).length = len := by rw [List.length_take]; omega
    refine ⟨(zs.take len).map Int.toNat, ?_, by rw [List.length_map, hll], ?_, hl, hm⟩
    · rw [hi]
      refine ⟨hll, fun _ => ⟨x, rfl, fun j hj => ?_⟩⟩
      rw [hc j (by omega)]
      simp [List.getD, hj]
    · intro y hy
      obtain ⟨z, hz, rfl⟩ := List.mem_map.1 hy
      have := hnn z (List.mem_of_mem_take hz)
      omega

theorem row_ints {w : World} {a : Option Addr} {len cap : Nat} {zs : List Int} (h : IsRow .i64 w a len cap zs) :
    ∃ ns : List Int, Rd .i64 w a len ns ∧ ns.length = len ∧ (∀ x ∈ ns, -9223372036854775808 ≤ x ∧ x ≤ 9223372036854775807) ∧ len ≤ cap ∧ cap ≤ maxLen := by
  rcases h with ⟨rfl, rfl, rfl, rfl⟩ | ⟨x, rfl, hl, hm, hz, hc, hw⟩
  · exact ⟨[], Rd.nil, rfl, by simp, Nat.le_refl _, Nat.zero_le _⟩
  · have hll : (zs.take len).length = len := by rw [List.length_take]; omega
    refine ⟨zs.take len, ⟨hll, fun _ => ⟨x, rfl, fun j hj => ?_⟩⟩, hll, ?_, hl, hm⟩
    · rw [hc j (by omega)]
      simp [List.getD, hj]
    · intro z hz
      have h := hw z (List.mem_of_mem_take hz)
      simp only [Lit.wf, Bool.and_eq_true, decide_eq_true_eq] at h
      have e1 : IntKind.i64.min = -9223372036854775808 := rfl
      have e2 : IntKind.i64.max = 9223372036854775807 := rfl
      omega
end Go.Proofs.Ytdcghnoioecglaa
