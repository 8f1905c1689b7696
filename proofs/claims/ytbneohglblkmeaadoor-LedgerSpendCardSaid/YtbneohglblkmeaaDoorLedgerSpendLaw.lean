/-
  The statement LedgerSpend by its walk.
-/
import Derived.Test.YtbneohglblkmeaaDoorLedAwake
import Derived.Test.YtbneohglblkmeaaDoorLedSpend
import Derived.Test.YtbneohglblkmeaaDoorLedLawPost
import Derived.Test.YtbneohglblkmeaaDoorMovePlain
import Derived.Test.YtbneohglblkmeaaDoorBookAny
import Derived.Test.YtbneohglblkmeaaDoorArgNat
namespace Go.Proofs.YtbneohglblkmeaaDoor
open Go Go.RowKit
set_option linter.unusedVariables false

theorem move_head {zs : List Ac} {f t x : Int} {e : En} {r : List En} (h : moveE zs f t x = 0) (hl : moveL zs f t x = e :: r) : e.acct = f := by
  unfold moveL at hl
  rw [if_pos h] at hl
  unfold moveOk at hl
  split at hl
  · injection hl with h1 _; rw [← h1]
  · injection hl with h1 _; rw [← h1]
theorem move_some {zs : List Ac} {f t x : Int} (h : moveE zs f t x = 0) : ∃ e r, moveL zs f t x = e :: r ∧ e.acct = f := by
  cases hl : moveL zs f t x with
  | nil =>
    unfold moveL at hl
    rw [if_pos h] at hl
    unfold moveOk at hl
    split at hl <;> cases hl
  | cons e r => exact ⟨e, r, rfl, move_head h hl⟩
/-- What Spend makes of a move's entries. -/
theorem spend_move {zs : List Ac} {f t x y : Int} (h : moveE zs f t x = 0) :
    spendE zs y (moveL zs f t x) = (if relE zs f y = 0 then postE (relL zs f y) (moveL zs f t x) else relE zs f y) ∧ spendL zs y (moveL zs f t x) = (if relE zs f y = 0 then postL (relL zs f y) (moveL zs f t x) else []) := by
  obtain ⟨e, r, hl, rfl⟩ := move_some h
  rw [hl]
  exact ⟨rfl, rfl⟩
theorem spend_none {zs : List Ac} {f t x y : Int} (h : moveE zs f t x ≠ 0) : spendE zs y (moveL zs f t x) = 13 ∧ spendL zs y (moveL zs f t x) = [] := by
  unfold moveL
  rw [if_neg h]
  exact ⟨rfl, rfl⟩

set_option maxRecDepth 100000 in
set_option maxHeartbeats 8000000 in
theorem ledgerSpend_walk (w : World) (v : Value) (hv : BookAt w v) (F : Int) (wF : (Lit.int .u8 F).wf = true) (T : Int) (wT : (Lit.int .u8 T).wf = true) (X : Int) (wX : (Lit.int .u16 X).wf = true) (Y : Int) (wY : (Lit.int .u16 Y).wf = true) (hh : HasErr w) :
    Calls Tryd.prog 5 #[v, .int .u8 F, .int .u8 T, .int .u16 X, .int .u16 Y] w fun e w' => e = .returned (.bool true) ∧ Below w.heap.size w w' := by
  obtain ⟨CA, HA, LA, cl, cc, hl, hc, ll, lc, cs, hs, ls, rfl, _⟩ := hv.form
  obtain ⟨F, rfl, hF⟩ := u8_nat wF
  obtain ⟨T, rfl, hT⟩ := u8_nat wT
  obtain ⟨X, rfl, hX⟩ := u16_nat wX
  obtain ⟨Y, rfl, hY⟩ := u16_nat wY
  obtain ⟨zs, kk, hbk, hk8, hbook⟩ := book_is hv
  obtain ⟨n, hn⟩ : ∃ n, zs.length = n := ⟨_, rfl⟩
  have hzl := hbk.len
  have hn17 : n ≤ 17 := by omega
  have hn9 : 9 ≤ n := by omega
  obtain ⟨f, hf⟩ : ∃ f : Nat, F % n = f := ⟨_, rfl⟩
  obtain ⟨t, ht⟩ : ∃ t : Nat, T % n = t := ⟨_, rfl⟩
  have hfn : f < n := by rw [← hf]; exact Nat.mod_lt _ (by omega)
  have htn : t < n := by rw [← ht]; exact Nat.mod_lt _ (by omega)
  have hf1 : (F : Int) % (n : Int) = (f : Int) := by rw [← hf]; rfl
  have ht1 : (T : Int) % (n : Int) = (t : Int) := by rw [← ht]; rfl
  have hf2 : (F : Int).tmod (n : Int) = (f : Int) := by rw [Int.tmod_eq_emod_of_nonneg (by omega)]; exact hf1
  have ht2 : (T : Int).tmod (n : Int) = (t : Int) := by rw [Int.tmod_eq_emod_of_nonneg (by omega)]; exact ht1
  have hn0 : ¬ (n : Int) = 0 := by omega
  have HH := Lib.hid hh
  have HBK := Lib.hid hbook
  have HN := Lib.hid hn
  have HCU := Lib.hid (Curs.of_book hbk)
  clear hv wF wT wX wY hbk hbook hn hzl hk8 hf ht hh
  go_enter Tryd.func5, Tryd.ntmps5
  go_wp2_with fail
  have hb0 := (Below.refl w.heap.size w).alloc (Nat.le_refl _) (.cells #[.slice CA cl cc, .slice HA hl hc, .slice LA ll lc] 25)
  refine (awake_ok _ (HH.out.below hb0)).mono ?_
  rintro e w1 ⟨rfl, hb1⟩
  have k0 : w1.cell? ⟨w.heap.size, 0, none⟩ = some (.slice CA cl cc) := by rw [hb1.cell (by simp)]; simp
  have k1 : w1.cell? ⟨w.heap.size, 1, none⟩ = some (.slice HA hl hc) := by rw [hb1.cell (by simp)]; simp
  have k2 : w1.cell? ⟨w.heap.size, 2, none⟩ = some (.slice LA ll lc) := by rw [hb1.cell (by simp)]; simp
  have HB1 := Lib.hid (hb0.trans (hb1.mono (by simp)))
  clear hb0 hb1
  go_wp2_with fail
  refine (HBK.out _ HB1.out).mono ?_
  rintro e w2 ⟨v2, rfl, ho, hb2⟩
  obtain ⟨g, cap, hv2, hg1, hg2, hnc, hcm⟩ := ho.open_ (by rw [HN.out]; omega)
  rw [HN.out] at hv2
  subst hv2
  have HO := Lib.hid ho
  have HB2 := Lib.hid (HB1.out.trans (hb2.mono HB1.out.size))
  clear ho hb2 hg1 hg2 hnc hcm k0 k1 k2
  have HM := Lib.hid (fun W (hbw : Below w2.heap.size w2 W) => move_any (some ⟨g, 0, none⟩) n cap zs (f : Int) (t : Int) (X : Int) W HN.out (HO.out.below hbw).rd HCU.out (by omega))
  have H2 := Lib.hid (Below.refl w2.heap.size w2)
  go_wp2
  go_quiet (fail)
  go_wp2_with fail
  refine (HM.out _ (below_drewN H2.out _)).mono ?_
  rintro e w3 ⟨v3, rfl, ho3, hb3⟩
  have HB3 : Hid (Below w2.heap.size w2 w3) := Lib.hid ((below_drewN (Below.refl w2.heap.size w2) _).trans (hb3.mono (by simp)))
  obtain ⟨es, hes⟩ : ∃ es, moveL zs (f : Int) (t : Int) (X : Int) = es := ⟨_, rfl⟩
  have hsp0 := fun h => spend_move (zs := zs) (f := (f : Int)) (t := (t : Int)) (x := (X : Int)) (y := (Y : Int)) h
  have hsp1 := fun h => spend_none (zs := zs) (f := (f : Int)) (t := (t : Int)) (x := (X : Int)) (y := (Y : Int)) h
  have hel := moveL_len zs (f : Int) (t : Int) (X : Int)
  obtain ⟨E, hE⟩ : ∃ E, moveE zs (f : Int) (t : Int) (X : Int) = E := ⟨_, rfl⟩
  rw [hes] at ho3 hsp0 hsp1 hel
  rw [hE] at hsp0 hsp1 ⊢
  obtain ⟨L, hL⟩ : ∃ L, es.length = L := ⟨_, rfl⟩
  obtain ⟨A3, cap3, rfl, hrd3, _⟩ := ho3.form
  rw [hL] at hel ⊢
  have HSP0 := Lib.hid hsp0
  have HSP1 := Lib.hid hsp1
  have HLL := Lib.hid hL
  have HR3 := Lib.hid hrd3
  have HSPN := Lib.hid (spend_any (some ⟨g, 0, none⟩) A3 n L cap cap3 zs (Y : Int) es w3 HN.out (HO.out.below HB3.out).rd HLL.out HR3.out (by omega) (by omega) (by intro h; cases h))
  clear hsp0 hsp1 hes hE hL ho3 hrd3 hb3 HM H2
  obtain ⟨V, hV⟩ : ∃ V, errV E = V := ⟨_, rfl⟩
  have HV := Lib.hid hV
  rw [hV]
  clear hV
  go_wp2_with fail
  refine HSPN.out.mono ?_
  rintro e w4 ⟨v4, rfl, ho4, hb4⟩
  have HB4 := Lib.hid (HB3.out.trans (hb4.mono HB3.out.size))
  have HR4 := Lib.hid (HR3.out.below hb4)
  clear hb4 HSPN
  have HV' := HV.out
  by_cases hE0 : E = 0
  · subst hE0
    obtain rfl : V = .nilIface := HV'.symm
    obtain ⟨s1, s2⟩ := HSP0.out rfl
    have HRE := Lib.hid (release_any (some ⟨g, 0, none⟩) n cap zs (f : Int) (Y : Int) w4 HN.out (HO.out.below HB4.out).rd (by omega) (by intro h; cases h))
    obtain ⟨ys, hys⟩ : ∃ ys, relL zs (f : Int) (Y : Int) = ys := ⟨_, rfl⟩
    obtain ⟨D, hD⟩ : ∃ D, relE zs (f : Int) (Y : Int) = D := ⟨_, rfl⟩
    have hyl : D = 0 → ys.length = n := fun h => by
      rw [h] at hD
      rw [← hys]
      unfold relL
      rw [if_pos hD, heldAs_len, HN.out]
    rw [hys, hD] at HRE s1 s2
    have HYL := Lib.hid hyl
    obtain ⟨SE, hSE⟩ : ∃ SE, spendE zs (Y : Int) es = SE := ⟨_, rfl⟩
    obtain ⟨SL, hSL⟩ : ∃ SL, spendL zs (Y : Int) es = SL := ⟨_, rfl⟩
    rw [hSE] at s1 ⊢
    rw [hSL] at s2 ho4
    have HS1 := Lib.hid s1
    have HS2 := Lib.hid s2
    have HO4 := Lib.hid ho4
    clear s1 s2 hSE hSL hys hD hyl ho4 HV' HV
    go_wp2_with fail
    refine HRE.out.mono ?_
    rintro e w5 ⟨v5, rfl, ho5, hb5⟩
    have HO5 := Lib.hid ho5
    have HB5 := Lib.hid (HB4.out.trans (hb5.mono HB4.out.size))
    have HR5 := Lib.hid (HR4.out.below hb5)
    have HO45 := Lib.hid (HO4.out.below hb5)
    clear ho5 hb5 HRE
    by_cases hD0 : D = 0
    · have hyl := HYL.out hD0
      rw [if_pos hD0] at HS1 HS2
      subst hD0
      rw [show errV 0 = .nilIface from rfl]
      obtain ⟨A5, cap5, rfl, hr5, hc5, hcm5, hnil5⟩ := HO5.out.form
      rw [hyl] at hc5 hnil5 ⊢
      have HLP := Lib.hid (lawpost_any A5 A3 n L cap5 cap3 ys es w5 hyl hr5 HLL.out HR5.out (by omega) (by omega) (by omega))
      rw [← HS1.out, ← HS2.out] at HLP
      clear hyl hr5 hc5 hcm5 hnil5 HO5
      go_wp2_with fail
      refine HLP.out.mono ?_
      rintro e w6 ⟨v6, rfl, ho6, hb6⟩
      have HB6 := Lib.hid (HB5.out.trans (hb6.mono HB5.out.size))
      obtain ⟨A4, cap4, rfl, hrd4, _, hcm4, _⟩ := (HO45.out.below hb6).form
      obtain ⟨A6, cap6, rfl, hrd6, hc6, hcm6, _⟩ := ho6.form
      obtain ⟨m, hm⟩ : ∃ m, SL.length = m := ⟨_, rfl⟩
      rw [hm] at hc6 ⊢
      have hm1 : m ≤ 9223372036854775807 := by unfold maxLen at hcm6; omega
      have HSM := Lib.hid (same_any A4 A6 m m cap4 cap6 SL SL w6 hm hm hrd4 hrd6 hm1 hm1)
      rw [show decide (SL = SL) = true from decide_eq_true rfl] at HSM
      clear ho6 hb6 hrd4 hrd6 hc6 hcm6 hcm4 hm HLP HO45 HO4
      go_wp2_with (first
        | (go_at_call 13; refine HSM.out.mono ?_; rintro e w7 ⟨rfl, hb7⟩; have HB7 := Lib.hid (HB6.out.trans (hb7.mono HB6.out.size)); clear hb7 HSM)
        | (go_at_call 14; refine (number_of SE w7 (HH.out.below (HB2.out.trans (HB7.out.mono HB2.out.size)))).mono ?_; rintro e w8 ⟨rfl, hb8⟩))
      go_ret
      exact ⟨rfl, HB2.out.trans ((HB7.out.trans (hb8.mono HB7.out.size)).mono HB2.out.size)⟩
    · rw [if_neg hD0] at HS1 HS2
      have s1 := HS1.out
      have s2 := HS2.out
      subst s1 s2
      obtain ⟨A4, cap4, rfl, _⟩ := HO45.out.form
      rw [show ([] : List Ac).length = 0 from rfl]
      rw [errV, if_neg hD0]
      have HNN := Lib.hid (fun W (hb : Below w2.heap.size w2 W) => by
        have := number_of SE W (HH.out.below (HB2.out.trans (hb.mono HB2.out.size)))
        rw [errV, if_neg hD0] at this
        exact this)
      clear HO5 HYL
      go_wp2_with (first
        | (go_at_call 14; refine (HNN.out _ HB5.out).mono ?_; rintro e w6 ⟨rfl, hb6⟩; have HB6 := Lib.hid (HB5.out.trans (hb6.mono HB5.out.size)); clear hb6 HB5))
      refine (HNN.out _ HB6.out).mono ?_
      rintro e w7 ⟨rfl, hb7⟩
      go_wp2
      go_ret
      exact ⟨rfl, HB2.out.trans ((HB6.out.trans (hb7.mono HB6.out.size)).mono HB2.out.size)⟩
  · rw [errV, if_neg hE0] at HV'
    obtain rfl := HV'
    obtain ⟨s1, s2⟩ := HSP1.out hE0
    rw [s2] at ho4
    rw [s1]
    obtain ⟨A4, cap4, rfl, _⟩ := ho4.form
    rw [show ([] : List Ac).length = 0 from rfl]
    have HNN := Lib.hid (number_of 13 w4 (HH.out.below (HB2.out.trans (HB4.out.mono HB2.out.size))))
    clear s1 s2 ho4 HV
    go_wp2_with (first
      | (go_at_call 14; refine HNN.out.mono ?_; rintro e w6 ⟨rfl, hb6⟩))
    go_ret
    exact ⟨rfl, HB2.out.trans ((HB4.out.trans (hb6.mono HB4.out.size)).mono HB2.out.size)⟩
end Go.Proofs.YtbneohglblkmeaaDoor
