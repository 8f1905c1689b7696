/-
  ledger.Spend by its contract.
-/
import Derived.Test.YtbneohglblkmeaaDoorLedPost
namespace Go.Proofs.YtbneohglblkmeaaDoor
open Go Go.RowKit
set_option linter.unusedVariables false

set_option maxRecDepth 100000 in
set_option maxHeartbeats 4000000 in
theorem spend_any (A B : Option Addr) (n m cap capb : Nat) (zs : List Ac) (x : Int) (es : List En) (w : World) (hl : zs.length = n) (hr : RdA w A zs) (hle : es.length = m) (hre : RdE w B es) (hn : n ≤ 5864062014805) (hm : m ≤ 9223372036854775807) (hnil : A = none → n = 0 ∧ cap = 0) :
    Calls Tryd.prog 18 #[.slice A n cap, .int .i64 x, .slice B m capb] w (LedRes (spendE zs x es) (spendL zs x es) w) := by
  cases es with
  | nil =>
    obtain rfl : m = 0 := by simpa using hle.symm
    clear hl hr hle hre hnil
    go_enter Tryd.func18, Tryd.ntmps18
    go_wp2
    go_ret2
    exact ledRes_no rfl (by omega) rfl (Below.refl _ _)
  | cons e0 r =>
    obtain ⟨ae, rfl, hae⟩ := hre.at_ (j := 0) (a := e0) rfl
    obtain ⟨c0, c1⟩ := hae
    rw [Nat.zero_mul, show ae.add 0 = ae by simp [Addr.add]] at c0
    have hm0 : 0 < m := by rw [← hle]; simp
    have hmz : ((m : Int) == 0) = false := by simp; omega
    have HREL := Lib.hid (release_any A n cap zs e0.acct x w hl hr hn hnil)
    have HRE := Lib.hid hre
    have HLE := Lib.hid hle
    have hsE : spendE zs x (e0 :: r) = if relE zs e0.acct x = 0 then postE (relL zs e0.acct x) (e0 :: r) else relE zs e0.acct x := rfl
    have hsL : spendL zs x (e0 :: r) = if relE zs e0.acct x = 0 then postL (relL zs e0.acct x) (e0 :: r) else [] := rfl
    obtain ⟨E, hE⟩ : ∃ E, relE zs e0.acct x = E := ⟨_, rfl⟩
    obtain ⟨ys, hys⟩ : ∃ ys, relL zs e0.acct x = ys := ⟨_, rfl⟩
    have hyl : E = 0 → ys.length = n := fun h => by
      rw [h] at hE
      rw [← hys]
      unfold relL
      rw [if_pos hE, heldAs_len, hl]
    rw [hE, hys] at HREL hsE hsL
    obtain ⟨SE, hSE⟩ : ∃ SE, spendE zs x (e0 :: r) = SE := ⟨_, rfl⟩
    obtain ⟨SL, hSL⟩ : ∃ SL, spendL zs x (e0 :: r) = SL := ⟨_, rfl⟩
    rw [hSE] at hsE ⊢
    rw [hSL] at hsL ⊢
    obtain ⟨es, hes⟩ : ∃ es, (e0 :: r) = es := ⟨_, rfl⟩
    rw [hes] at hsE hsL HRE HLE
    obtain ⟨P, y⟩ := e0
    dsimp only at c0 HREL
    have HYL := Lib.hid hyl
    have HSE := Lib.hid hsE
    have HSL := Lib.hid hsL
    clear hl hr hle hre hnil hsE hsL hE hys hyl hSE hSL hes c1
    go_enter Tryd.func18, Tryd.ntmps18
    go_wp2_with fail
    refine HREL.out.mono ?_
    rintro e w1 ⟨v, rfl, ho, hb1⟩
    have HB1 := Lib.hid hb1
    clear hb1 HREL
    by_cases h0 : E = 0
    · have hyl := HYL.out h0
      rw [if_pos h0] at HSE HSL
      subst h0
      rw [show errV 0 = .nilIface from rfl]
      obtain ⟨A1, cap1, rfl, hr1, hc1, hcm1, hnil1⟩ := ho.form
      rw [hyl] at hc1 hnil1 ⊢
      have HP := Lib.hid (post_any A1 (some ae) n m cap1 capb ys es w1 hyl hr1 HLE.out (HRE.out.below HB1.out) hn hm hnil1)
      clear ho hyl hr1 hc1 hcm1 hnil1
      go_wp2_with fail
      refine HP.out.mono ?_
      rintro e w2 ⟨v2, rfl, ho2, hb2⟩
      have HO2 := Lib.hid ho2
      have HB2 := Lib.hid hb2
      clear ho2 hb2
      go_wp2
      go_ret2
      rw [HSE.out, HSL.out]
      exact ⟨v2, rfl, HO2.out.less HB1.out.size, HB1.out.trans (HB2.out.mono HB1.out.size)⟩
    · rw [if_neg h0] at HSE HSL
      rw [errV, if_neg h0]
      have HEN : Hid (E ≠ 0) := Lib.hid h0
      clear ho h0
      go_wp2
      go_ret2
      exact ledRes_no HSE.out HEN.out HSL.out HB1.out
end Go.Proofs.YtbneohglblkmeaaDoor
