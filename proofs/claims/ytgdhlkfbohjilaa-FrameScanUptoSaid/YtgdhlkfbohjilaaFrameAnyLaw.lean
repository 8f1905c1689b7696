/-
  The statement FrameAny by its walk, of up to 1048576 bytes.
-/
import Derived.Test.YtgdhlkfbohjilaaFrameSaid
import Derived.Test.YtgdhlkfbohjilaaArgNat
import Derived.Test.YtgdhlkfbohjilaaRowArg
namespace Go.Proofs.Ytgdhlkfbohjilaa
open Go.RowKit
set_option linter.unusedVariables false

theorem flat_take (rs : List (List Nat)) (k : Nat) (hk : k < rs.length) : flat (rs.take (k + 1)) = flat (rs.take k) ++ fmk rs[k] := by
  rw [List.take_succ_eq_append_getElem hk, flat_snoc]
theorem flat_take_le (rs : List (List Nat)) (k : Nat) : (flat (rs.take k)).length ≤ (flat rs).length := by
  conv => rhs; rw [← List.take_append_drop k rs, flat_append, List.length_append]
  omega

set_option maxRecDepth 100000 in
set_option maxHeartbeats 2000000 in
theorem frameAny_walk (w : World) (a : Option Addr) (len cap : Nat) (zs : List Int) (h : IsRow .u8 w a len cap zs) (hr : cap ≤ 1048576) :
    Calls Try.prog 8 #[.slice a len cap] w fun e w' => e = .returned (.bool true) ∧ Below w.heap.size w w' := by
  obtain ⟨xs, hrd, hxl, hw, hnc, _⟩ := row_bytes h
  have HR := Lib.hid hrd
  have HW := Lib.hid hw
  have HXL := Lib.hid hxl
  clear h hrd hw hxl
  go_enter Try.func8, Try.ntmps8
  go_wp2_with fail
  refine (awake_any w).mono ?_
  rintro e w1 ⟨rfl, hb⟩
  have HB := Lib.hid hb
  have HR1 := Lib.hid (HR.out.below hb)
  clear hb
  go_wp2_with fail
  refine (scan_any a len cap xs w1 HR1.out HW.out hnc (by omega) (by omega)).mono ?_
  rintro e w2 ⟨rs, v, hsc, rfl, hown, hb⟩
  have HB2 := Lib.hid (HB.out.trans (hb.mono HB.out.size))
  obtain ⟨A2, c2, rfl, h21, h22, hrows⟩ := hown.form
  obtain ⟨hrl, t, hxs, hnone⟩ := hsc
  have hfl : (flat rs).length ≤ len := by rw [← HXL.out, hxs, List.length_append]; omega
  have hft : xs.take (flat rs).length = flat rs := by rw [hxs, List.take_left' rfl]
  have hfd : xs.drop (flat rs).length = t := by rw [hxs, List.drop_left' rfl]
  have hrw : ∀ r ∈ rs, ∀ x ∈ r, x < 256 := by
    intro r hr x hx
    refine HW.out x ?_
    rw [hxs]
    refine List.mem_append_left _ (List.mem_flatMap.2 ⟨r, hr, List.mem_append_right _ hx⟩)
  obtain ⟨f, hf⟩ : ∃ f, f = (flat rs).length := ⟨_, rfl⟩
  obtain ⟨m, hm⟩ : ∃ m, m = rs.length := ⟨_, rfl⟩
  rw [← hf] at hfl hft hfd ⊢
  rw [← hm] at h21 ⊢
  have hmx : m ≤ 1048576 := by have := flat_len rs; omega
  have HROWS := Lib.hid hrows
  have HRL := Lib.hid hrl
  have HNONE := Lib.hid hnone
  have HFT := Lib.hid hft
  have HFD := Lib.hid hfd
  have HRW := Lib.hid hrw
  have HF := Lib.hid hf
  have HM := Lib.hid hm
  clear hown hb hrl hxs hnone hft hfd hrw hf hm hrows h22
  go_wp2
  go_loopw [5, 20] (fun s i wr => ∃ k : Nat, k ≤ m ∧ i = .int .i64 k ∧ s = .string (strN (flat (rs.take k))) ∧ Below w2.heap.size w2 wr) (fun _ i _ => m - (intOf i).toNat)
  case atStart => exact ⟨0, Nat.zero_le _, rfl, rfl, Below.refl _ _⟩
  case round =>
    obtain ⟨k, hk, rfl, rfl, hbel⟩ := hrel
    by_cases hlt : k < m
    · have hlt' : k < rs.length := by rw [← HM.out]; exact hlt
      obtain ⟨ad, B, c, rfl, hcell, h1, h2, hrd⟩ := (HROWS.out.below hbel).at_ hlt'
      have hr16 := HRL.out _ (List.getElem_mem hlt')
      have hrw := HRW.out _ (List.getElem_mem hlt')
      have hft := flat_take rs k hlt'
      have hle := flat_take_le rs k
      rw [← HF.out] at hle
      obtain ⟨r, hre⟩ : ∃ r, r = rs[k] := ⟨_, rfl⟩
      rw [← hre] at hcell h1 hrd hr16 hrw hft
      obtain ⟨z, hz⟩ : ∃ z, z = r.length := ⟨_, rfl⟩
      rw [← hz] at hcell h1 hrd hr16
      have hcc : ¬ 9223372036854775807 < (strN (flat (rs.take k))).size + (strN (fmk r)).size := by
        rw [strN_size, strN_size, fmk_length]; omega
      obtain ⟨s, hs⟩ : ∃ s, s = flat (rs.take k) := ⟨_, rfl⟩
      rw [← hs] at hcc hft ⊢
      have HRD := Lib.hid hrd
      have HRWk := Lib.hid hrw
      have HFK := Lib.hid hft
      have HBEL := Lib.hid hbel
      clear hrd hrw hft hbel hre hz hle hs hlt'
      go_wp2_with fail
      refine (made_any B z c r wr HRD.out HRWk.out hr16).mono ?_
      rintro e w3 ⟨rfl, hb3⟩
      have HB3 := Lib.hid (HBEL.out.trans (hb3.mono HBEL.out.size))
      clear hb3
      go_wp2
      go_roundw
      case rel => exact ⟨k + 1, by omega, by go_num, by rw [HFK.out, strN_append], HB3.out⟩
      case measure => simp [intOf]; omega
    · obtain rfl : k = m := by omega
      have htk : rs.take k = rs := List.take_of_length_le (by rw [← HM.out]; omega)
      rw [htk]
      have hsz : (strN (flat rs)).size = f := by rw [strN_size, HF.out]
      have hbw : Below w.heap.size w wr := HB2.out.trans (hbel.mono HB2.out.size)
      have hrw := HR.out.below hbw
      have hfront := hrw.front (j := f) hfl
      rw [ints_take, HFT.out] at hfront
      have hstr := str_of wr a f cap _ hfront
      have hs1 := fun W => run_front W a len cap f (by omega)
      have hcut := hrw.cut (j := f) hfl hnc
      rw [ints_drop, HFD.out] at hcut
      have hs2 := fun W => run_back W a len cap f hfl
      obtain ⟨A', hA'⟩ : ∃ A', A' = (if cap = f then a else a.map (·.add f)) := ⟨_, rfl⟩
      rw [← hA'] at hs2 hcut
      obtain ⟨m', hm'⟩ : ∃ m', m' = len - f := ⟨_, rfl⟩
      obtain ⟨d, hd⟩ : ∃ d, d = cap - f := ⟨_, rfl⟩
      rw [← hm', ← hd] at hs2
      rw [← hm'] at hcut
      have hmd : m' ≤ d := by omega
      have hdm : d ≤ 1048576 := by omega
      have HTW := Lib.hid (show ∀ x ∈ t, x < 256 from fun x hx => HW.out x (by rw [← HFD.out] at hx; exact List.mem_of_mem_drop hx))
      have HC := Lib.hid hcut
      have HBW := Lib.hid hbw
      obtain ⟨s, hs⟩ : ∃ s, s = strN (flat rs) := ⟨_, rfl⟩
      rw [← hs] at hsz hstr ⊢
      clear hbw hrw hfront hcut hbel htk hA' hm' hd hs
      go_wp2_with fail
      refine (one_any A' m' d t wr HC.out HTW.out hmd (by omega) none HNONE.out).mono ?_
      rintro e w4 ⟨hb4, rfl⟩
      have HB4 := Lib.hid (HBW.out.trans (hb4.mono HBW.out.size))
      clear hb4
      go_wp2
      go_ret
      exact ⟨rfl, HB4.out⟩
end Go.Proofs.Ytgdhlkfbohjilaa
