/-
  Running.Write, Running.Sum and crc.Sum by their contracts.
-/
import Derived.Test.YtgdhlkfbohjilaaCrcShift
import Derived.Test.YtgdhlkfbohjilaaInts
namespace Go.Proofs.Ytgdhlkfbohjilaa
open Go.RowKit

theorem flip_xor (s : Nat) (h : s < 4294967296) : 4294967295 ^^^ s = 4294967295 - s := by
  have e := congrArg BitVec.toNat (BitVec.allOnes_xor (x := BitVec.ofNat 32 s))
  rw [BitVec.toNat_xor, BitVec.toNat_not, BitVec.toNat_allOnes, BitVec.toNat_ofNat] at e
  rw [Nat.mod_eq_of_lt (by omega)] at e
  exact e
theorem bits_flip (s : Nat) (h : s < 4294967296) : bits .xor .u32 IntKind.u32.max (s : Int) = ((4294967295 - s : Nat) : Int) := by
  rw [← flip_xor s h]
  exact u32_xor_nat 4294967295 s (by omega) h

theorem shift_at (z : Int) (r : Nat) (w : World) (h : r < 4294967296) (hz : z = (r : Int)) :
    Calls Try.prog 23 #[.int .u32 z] w fun e w' => e = .returned (.int .u32 (citer 8 r : Nat)) ∧ w = w' := by
  subst hz; exact shift_any r w h

theorem take_succ_nat (ns : List Nat) (k : Nat) (h : k < ns.length) : ns.take (k + 1) = ns.take k ++ [ns.getD k 0] := by
  rw [List.take_succ_eq_append_getElem h]
  simp [List.getD, h]

/-- What Write leaves in the register's cell. -/
def WriteRes (w : World) (ad : Addr) (q : Nat) (e : Ending) (w' : World) : Prop := e = .returned (.tuple #[]) ∧ w' = w.setCell ad (.int .u32 (q : Int))

set_option maxRecDepth 100000 in
set_option maxHeartbeats 2000000 in
theorem write_any (b o : Nat) (s : Nat) (A : Option Addr) (n c : Nat) (xs : List Nat) (w : World) (hs : s < 4294967296)
    (hc : w.cell? ⟨b, o, none⟩ = some (.int .u32 (s : Int))) (hf : w.frozen? ⟨b, o, none⟩ = false)
    (hr : Rd .u8 w A n (ints xs)) (hx : ∀ x ∈ xs, x < 256) (hn : n ≤ 9223372036854775807) :
    Calls Try.prog 21 #[.pointer (some ⟨b, o, none⟩), .slice A n c] w (WriteRes w ⟨b, o, none⟩ (4294967295 - creg (4294967295 - s) xs)) := by
  have hl : xs.length = n := by have := hr.1; rwa [ints_length] at this
  have HL := Lib.hid hl
  have HR := Lib.hid hr
  have HX := Lib.hid hx
  have HF := Lib.hid (bits_flip s hs)
  clear hl hr hx
  go_enter Try.func21, Try.ntmps21
  go_wp2
  go_loop [4, 14] (fun x i => ∃ k : Nat, k ≤ n ∧ i = .int .i64 k ∧ x = .int .u32 (creg (4294967295 - s) (xs.take k) : Nat)) (fun _ i => n - (intOf i).toNat)
  case atStart => exact ⟨0, by omega, rfl, by rw [HF.out]; rfl⟩
  case round =>
    obtain ⟨k, hk, rfl, rfl⟩ := hrel
    have hq : creg (4294967295 - s) (xs.take k) < 4294967296 := creg_lt _ (by omega) fun x hm => HX.out x (List.mem_of_mem_take hm)
    obtain ⟨q, hqe⟩ : ∃ q, q = creg (4294967295 - s) (xs.take k) := ⟨_, rfl⟩
    rw [← hqe] at hq ⊢
    have HQ := Lib.hid hqe
    clear hqe
    by_cases hlt : k < n
    · obtain ⟨ad, rfl, hcell⟩ := HR.out.at_ hlt
      rw [ints_getD] at hcell
      have hkl : k < xs.length := by rw [HL.out]; exact hlt
      have HT := Lib.hid (take_succ_nat xs k hkl)
      obtain ⟨x, hxe⟩ : ∃ x, x = xs.getD k 0 := ⟨_, rfl⟩
      rw [← hxe] at hcell HT
      have hx1 : x < 256 := HX.out x (by rw [hxe]; simp [List.getD, hkl])
      clear hxe hkl
      go_wp2_with fail
      refine (shift_at _ (q ^^^ x) _ (xor_lt32 hq (by omega)) (u32_xor_nat q x hq (by omega))).mono ?_
      rintro e w' ⟨rfl, rfl⟩
      go_wp2
      go_round
      case rel => exact ⟨k + 1, by omega, by go_num, by rw [HT.out, creg_snoc, ← HQ.out]⟩
      case measure => simp [intOf]; omega
    · have he : xs.take k = xs := List.take_of_length_le (by rw [HL.out]; omega)
      rw [he] at HQ
      clear he
      go_wp2
      go_end0
      exact ⟨rfl, by rw [bits_flip q hq, HQ.out]⟩

theorem total_any (b o : Nat) (s : Int) (w : World) (hc : w.cell? ⟨b, o, none⟩ = some (.int .u32 s)) :
    Calls Try.prog 22 #[.pointer (some ⟨b, o, none⟩)] w fun e w' => e = .returned (.int .u32 s) ∧ w = w' := by
  go_enter Try.func22, Try.ntmps22
  go_wp2
  go_ret
  exact ⟨rfl, rfl⟩

def SumRes (w : World) (q : Nat) (e : Ending) (w' : World) : Prop := e = .returned (.int .u32 (q : Int)) ∧ Below w.heap.size w w'

set_option maxRecDepth 100000 in
set_option maxHeartbeats 2000000 in
theorem sum_any (A : Option Addr) (n c : Nat) (xs : List Nat) (w : World) (hr : Rd .u8 w A n (ints xs)) (hx : ∀ x ∈ xs, x < 256) (hn : n ≤ 9223372036854775807) :
    Calls Try.prog 19 #[.slice A n c] w (SumRes w (csum xs)) := by
  have HR := Lib.hid hr
  have HX := Lib.hid hx
  clear hr hx
  go_enter Try.func19, Try.ntmps19
  go_wp2_with fail
  refine (write_any _ _ 0 A n c xs _ (by omega) (by simp) (by simp) (HR.out.alloc _) HX.out hn).mono ?_
  rintro e w' ⟨rfl, rfl⟩
  go_wp2_with fail
  refine (total_any _ _ (csum xs : Nat) _ (by simp [csum])).mono ?_
  rintro e w' ⟨rfl, rfl⟩
  go_wp2
  go_ret
  exact ⟨rfl, (Below.refl _ _).alloc (Nat.le_refl _) _⟩
end Go.Proofs.Ytgdhlkfbohjilaa
