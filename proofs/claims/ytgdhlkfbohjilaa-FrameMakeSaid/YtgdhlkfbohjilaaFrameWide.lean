/-
  Wide by its contract: some bytes.
-/
import Derived.Test.YtgdhlkfbohjilaaOwnMade
import Derived.Test.YtgdhlkfbohjilaaOwnAt
import Derived.Test.YtgdhlkfbohjilaaArgNat
import Derived.Test.YtgdhlkfbohjilaaCutRun
import Derived.Lib.Hide
import Derived.LoopTactic
namespace Go.Proofs.Ytgdhlkfbohjilaa
open Go.RowKit
set_option linter.unusedVariables false

/-- Some bytes in new memory, fewer than 20000. -/
def WideRes (w : World) (e : Ending) (w' : World) : Prop :=
  ∃ A c ys, e = .returned (.slice A ys.length c) ∧ ys.length ≤ c ∧ c ≤ maxLen ∧ Rd .u8 w' A ys.length (ints ys) ∧ (∀ y ∈ ys, y < 256) ∧ ys.length < 20000 ∧ Below w.heap.size w w'

set_option maxRecDepth 100000 in
set_option maxHeartbeats 2000000 in
theorem wide_any (A : Option Addr) (len cap : Nat) (xs : List Nat) (w : World) (hr : Rd .u8 w A len (ints xs)) (hx : ∀ x ∈ xs, x < 256) (hlen : len ≤ 9223372036854775807) (t : Nat) (ht : t < 65536) :
    Calls Try.prog 10 #[.slice A len cap, .int .u16 t] w (WideRes w) := by
  have HR := Lib.hid hr
  have HX := Lib.hid hx
  obtain ⟨n, hn⟩ : ∃ n, n = t % 20000 := ⟨_, rfl⟩
  have hnl : n < 20000 := by omega
  have hnn : (t : Int) % 20000 = (n : Int) := by omega
  have hmk := run_make_row' (P := Try.prog) 22 5 (.int .u8 0) 1 Try.underlying22 info_byte rfl .i64 .i64 n (by omega) (by omega)
  obtain ⟨g, hg⟩ : ∃ g, g = w.heap.size := ⟨_, rfl⟩
  have HO := Lib.hid (own_made w n g (by simp only [maxLen]; omega) (by omega))
  have hgw : w.heap.size ≤ g := by omega
  have HG := Lib.hid hg
  clear hr hx hn hg
  go_enter Try.func10, Try.ntmps10
  go_wp2
  rw [← HG.out] at HO ⊢
  go_loopw [13] (fun i wr => ∃ (k : Nat) (ds : List Nat), k ≤ n ∧ i = .int .i64 k ∧ ds.length = n ∧ (∀ x ∈ ds, x < 256) ∧ Own 5 .u8 wr g (.slice (some ⟨g, 0, none⟩) n n) n (ints ds) ∧ Below w.heap.size w wr) (fun i _ => n - (intOf i).toNat)
  case atStart =>
    exact ⟨0, List.replicate n 0, Nat.zero_le _, rfl, by simp, by simp, HO.out, (Below.refl _ _).alloc (Nat.le_refl _) _⟩
  case round =>
    obtain ⟨k, ds, hk, rfl, hdl, hdw, hown, hbel⟩ := hrel
    have HDL := Lib.hid hdl
    have HDW := Lib.hid hdw
    have HOWN := Lib.hid hown
    have HBEL := Lib.hid hbel
    clear hdl hdw hown hbel
    by_cases hlt : k < n
    · by_cases hl0 : 0 < len
      · obtain ⟨m, hm⟩ : ∃ m, m = k % len := ⟨_, rfl⟩
        have hml : m < len := by rw [hm]; exact Nat.mod_lt _ hl0
        have hmm : (k : Int) % (len : Int) = (m : Int) := by rw [hm]; rfl
        obtain ⟨ad, rfl, hcx⟩ := (HR.out.below HBEL.out).at_ hml
        rw [ints_getD] at hcx
        have hz8 := getD_lt HX.out m
        obtain ⟨z, hz⟩ : ∃ z, z = xs.getD m 0 := ⟨_, rfl⟩
        rw [← hz] at hcx hz8
        have hcell := HOWN.out.cell hlt
        have hfz := HOWN.out.unfrozen k
        clear hm hz
        go_wp2
        go_roundw
        case rel => exact ⟨k + 1, ds.set k z, by omega, by go_num, by rw [List.length_set]; exact HDL.out, fun x hm => by
            rcases List.mem_or_eq_of_mem_set hm with h | rfl
            · exact HDW.out x h
            · exact hz8, by rw [← ints_set]; exact (HOWN.out.set k _), (HBEL.out.setCell hgw _)⟩
        case measure => simp [intOf]; omega
      · obtain rfl : len = 0 := by omega
        go_wp2
        go_roundw
        case rel => exact ⟨k + 1, ds, by omega, by go_num, HDL.out, HDW.out, HOWN.out, HBEL.out⟩
        case measure => simp [intOf]; omega
    · obtain rfl : k = n := by omega
      have hrd : Rd .u8 wr (some ⟨g, 0, none⟩) k (ints ds) := by obtain ⟨_, _, he, _, _, hrd, _⟩ := HOWN.out.form; cases he; exact hrd
      have HRD := Lib.hid hrd
      clear hrd
      go_wp2
      go_ret
      exact ⟨some ⟨g, 0, none⟩, k, ds, by rw [HDL.out]; rfl, by rw [HDL.out]; omega, by simp only [maxLen]; omega, by rw [HDL.out]; exact HRD.out, HDW.out, by rw [HDL.out]; exact hnl, HBEL.out⟩
end Go.Proofs.Ytgdhlkfbohjilaa
