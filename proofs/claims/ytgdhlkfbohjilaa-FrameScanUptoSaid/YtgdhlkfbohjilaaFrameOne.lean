/-
  frame.One by its contract.
-/
import Derived.Test.YtgdhlkfbohjilaaFrameHead
import Derived.BigQuiet
import Derived.Deep.QuietTactic
import Derived.IntWalk
namespace Go.Proofs.Ytgdhlkfbohjilaa
open Go.RowKit
set_option linter.unusedVariables false

/-- One's answer. -/
def OneRes (w : World) (o : Option (List Nat)) (e : Ending) (w' : World) : Prop :=
  Below w.heap.size w w' ∧ match o with
  | none => e = .returned (.tuple #[.slice none 0 0, .int .i64 0, .bool false])
  | some r => ∃ A c, e = .returned (.tuple #[.slice A r.length c, .int .i64 (6 + (r.length : Int)), .bool true]) ∧ r.length ≤ c ∧ c ≤ maxLen ∧ Rd .u8 w' A r.length (ints r) ∧ ∀ ad, A = some ad → w.heap.size ≤ ad.block

theorem run_mid (W : World) (A : Option Addr) (n c j k : Nat) (hj : j ≤ k) (hk : k ≤ c) : (Instr.sliceAt 22 (.slice A n c) (some (.int .i64 (j : Int))) (some (.int .i64 (k : Int))) none).run Try.prog W = .ok (.slice (if c = j then A else A.map (·.add j)) (k - j) (c - j)) W := by
  rw [run_sliceAt_slice _ _ _ _ _ _ byte_slice, run_slice_lh W _ _ _ _ byte_slice _ _ _ _ (by omega) (by omega) (by omega), byte_size]
  simp [Result.andThen, sliced]

theorem size_or (x y : Nat) (hx : x < 256) (hy : y < 256) : bits .or .i64 ((x : Int) * 256) (y : Int) = ((x * 256 + y : Nat) : Int) := by
  have e1 : (BitVec.ofInt 64 ((x : Int) * 256)).toNat = x * 256 := by rw [BitVec.toNat_ofInt]; omega
  have e2 : (BitVec.ofInt 64 (y : Int)).toNat = y := by rw [BitVec.toNat_ofInt]; omega
  show IntKind.i64.wrap ((BitVec.ofInt 64 ((x : Int) * 256) ||| BitVec.ofInt 64 (y : Int)).toNat : Int) = _
  rw [BitVec.toNat_or, e1, e2, nat_join8 _ y (by omega) hy, IntWalk.i64_in _ ⟨by omega, by omega⟩]

set_option maxRecDepth 100000 in
set_option maxHeartbeats 2000000 in
theorem one_any (A : Option Addr) (n c : Nat) (xs : List Nat) (w : World) (hr : Rd .u8 w A n (ints xs)) (hx : ∀ x ∈ xs, x < 256) (hnc : n ≤ c) (hcm : c ≤ 9223372036854775807) (o : Option (List Nat)) (ho : fone xs = o) :
    Calls Try.prog 12 #[.slice A n c] w (OneRes w o) := by
  have hl : xs.length = n := by have := hr.1; rwa [ints_length] at this
  have HL := Lib.hid hl
  have HR := Lib.hid hr
  have HX := Lib.hid hx
  have HO := Lib.hid ho
  clear hl hr hx ho
  by_cases h6 : n < 6
  · obtain rfl : o = none := by rw [← HO.out]; exact fone_short (by rw [HL.out]; exact h6)
    go_enter Try.func12, Try.ntmps12
    go_wp2
    go_ret3
    exact ⟨Below.refl _ _, rfl⟩
  · obtain ⟨ad, rfl, hcells⟩ := HR.out.2 (by omega)
    have c0 := hcells 0 (by omega)
    have c1 := hcells 1 (by omega)
    rw [ints_getD] at c0 c1
    rw [show ad.add 0 = ad from rfl] at c0
    rw [show ad.add 1 = ⟨ad.block, ad.off + 1, none⟩ from rfl] at c1
    have hb : ∀ j, j < n → xs.getD j 0 < 256 := by
      intro j hj
      have hj' : j < xs.length := by rw [HL.out]; exact hj
      have h1 : xs.getD j 0 = xs[j] := by simp [List.getD, hj']
      rw [h1]; exact HX.out _ (List.getElem_mem hj')
    have b0 := hb 0 (by omega)
    have b1 := hb 1 (by omega)
    obtain ⟨x, hxe⟩ : ∃ x, x = xs.getD 0 0 := ⟨_, rfl⟩
    obtain ⟨y, hye⟩ : ∃ y, y = xs.getD 1 0 := ⟨_, rfl⟩
    rw [← hxe] at c0 b0
    rw [← hye] at c1 b1
    have HXE := Lib.hid hxe
    have HYE := Lib.hid hye
    clear hcells hb hxe hye
    go_enter Try.func12, Try.ntmps12
    go_wp2_with fail
    have i0 : (0 : Int) < (n : Int) := by omega
    have i1 : (1 : Int) < (n : Int) := by omega
    go_region
    rw [size_or x y b0 b1]
    obtain ⟨z, hz⟩ : ∃ z, z = x * 256 + y := ⟨_, rfl⟩
    rw [← hz]
    have hzx : xs.getD 0 0 * 256 + xs.getD 1 0 = z := by rw [← HXE.out, ← HYE.out, hz]
    have HZ := Lib.hid hzx
    clear hz hzx c0 c1 b0 b1 i0 i1 HXE HYE
    by_cases hbig : 16384 < z
    · obtain rfl : o = none := by
        rw [← HO.out]
        unfold fone
        rw [HZ.out, HL.out, if_neg h6, if_pos (.inl hbig)]
      go_wp2
      go_ret3
      exact ⟨(Below.refl _ _).drew, rfl⟩
    · by_cases hlong : n - 6 < z
      · obtain rfl : o = none := by
          rw [← HO.out]
          unfold fone
          rw [HZ.out, HL.out, if_neg h6, if_pos (.inr hlong)]
        go_wp2
        go_ret3
        exact ⟨(Below.refl _ _).drew, rfl⟩
      · have hs : ∀ W : World, (Instr.sliceAt 22 (.slice (some ad) n c) (some (.int .i64 6)) (some (.int .i64 (6 + (z : Int)))) none).run Try.prog W = .ok (.slice (if c = 6 then some ad else (some ad).map (·.add 6)) z (c - 6)) W := by
          intro W
          have h := run_mid W (some ad) n c 6 (6 + z) (by omega) (by omega)
          rw [show (((6 + z : Nat)) : Int) = 6 + (z : Int) by omega, show 6 + z - 6 = z by omega] at h
          exact h
        have hrd : Rd .u8 w.drew (if c = 6 then some ad else (some ad).map (·.add 6)) z (ints ((xs.drop 6).take z)) := by
          have h := (HR.out.drew.cut (j := 6) (by omega) hnc).front (j := z) (by omega)
          rw [ints_drop, ints_take] at h
          exact h
        obtain ⟨A', hA'⟩ : ∃ A', A' = (if c = 6 then some ad else (some ad).map (·.add 6)) := ⟨_, rfl⟩
        rw [← hA'] at hs hrd
        obtain ⟨r, hre⟩ : ∃ r, r = (xs.drop 6).take z := ⟨_, rfl⟩
        rw [← hre] at hrd
        have hrl : r.length = z := by rw [hre, List.length_take, List.length_drop, HL.out]; omega
        have hfo : fone xs = if xs.take 6 = fhd r then some r else none := by
          unfold fone
          rw [HZ.out, HL.out, if_neg h6, if_neg (by omega), ← hre]
        have HFO := Lib.hid hfo
        have HRD := Lib.hid hrd
        have HRL := Lib.hid hrl
        have HRX := Lib.hid (show ∀ x ∈ r, x < 256 from fun x hm => HX.out x (by rw [hre] at hm; exact List.mem_of_mem_drop (List.mem_of_mem_take hm)))
        obtain ⟨c', hc'⟩ : ∃ c', c' = c - 6 := ⟨_, rfl⟩
        rw [← hc'] at hs
        clear hA' hre hrd hrl hc' hfo
        go_wp2_with fail
        refine (head_any A' z c' r _ HRD.out HRX.out (by omega)).mono ?_
        rintro e w1 ⟨B, d, rfl, _, _, hrb, hb⟩
        have HRB := Lib.hid hrb
        have HB := Lib.hid ((Below.refl w.heap.size w).drew.trans hb)
        have HRD1 := Lib.hid (HRD.out.below hb)
        rw [fhd_length] at *
        clear hrb hb hs
        go_wp2_with fail
        refine (prefix_any (some ad) n c xs B 6 d (fhd r) w1 (HR.out.below HB.out) HRB.out HX.out (hdOf_lt _ _) hnc (by omega)).mono ?_
        rintro e w2 ⟨rfl, rfl⟩
        by_cases hp : xs.take 6 = fhd r
        · obtain rfl : o = some r := by rw [← HO.out, HFO.out, if_pos hp]
          have hpd : decide (xs.take 6 = fhd r) = true := by simp [hp]
          rw [hpd]
          clear hp hpd
          go_wp2_with fail
          refine (clone_any A' z c' r w1 HRD1.out (by omega)).mono ?_
          rintro e w2 ⟨v, rfl, ho, hb⟩
          obtain ⟨A2, c2, rfl, h1, h2, hr2, _⟩ := ho.form
          have HR2 := Lib.hid hr2
          have HB2 := Lib.hid (HB.out.trans (hb.mono HB.out.size))
          have HNEW := Lib.hid (show ∀ ad, A2 = some ad → w.heap.size ≤ ad.block from fun ad he => by
            subst he
            have h3 := ho.rowLt ad.block rfl
            have h4 := HB.out.size
            omega)
          clear ho hb hr2
          go_wp2
          go_ret3
          exact ⟨HB2.out, A2, c2, by rw [HRL.out]; rfl, h1, h2, HR2.out, HNEW.out⟩
        · obtain rfl : o = none := by rw [← HO.out, HFO.out, if_neg hp]
          have hpd : decide (xs.take 6 = fhd r) = false := by simp [hp]
          rw [hpd]
          clear hp hpd
          go_wp2
          go_ret3
          exact ⟨HB.out, rfl⟩
end Go.Proofs.Ytgdhlkfbohjilaa
