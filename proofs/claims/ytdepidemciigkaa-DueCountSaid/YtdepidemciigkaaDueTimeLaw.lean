/-
  The statement DueTime by its walk, of what due answers.
-/
import Derived.Test.YtdepidemciigkaaDueBy
import Derived.Test.YtdepidemciigkaaDueSame
import Derived.Test.YtdepidemciigkaaDuePays
import Derived.Test.YtdepidemciigkaaOwnFront
namespace Go.Proofs.Ytdepidemciigkaa
open Go Go.RowKit
set_option linter.unusedVariables false

theorem min_i8 {P : Program} (x y : Int) (W : World) (ts : Array TypeId) (t : TypeId) : (Builtin.min_ ts t #[.int .i8 x, .int .i8 y]).run P W = .ok (.int .i8 (if y < x then y else x)) W := by
  simp [Builtin.min_, Builtin.min2]
theorem max_i8 {P : Program} (x y : Int) (W : World) (ts : Array TypeId) (t : TypeId) : (Builtin.max_ ts t #[.int .i8 x, .int .i8 y]).run P W = .ok (.int .i8 (if x < y then y else x)) W := by
  simp [Builtin.max_, Builtin.max2]
theorem i8_in {b : Int} (h : (Lit.int .i8 b).wf = true) : -128 ≤ b ∧ b ≤ 127 := by
  simp only [Lit.wf, Bool.and_eq_true, decide_eq_true_eq] at h
  have e1 : IntKind.i8.min = -128 := rfl
  have e2 : IntKind.i8.max = 127 := rfl
  omega

set_option maxRecDepth 100000 in
set_option maxHeartbeats 1000000 in
theorem dueTime_of (H : DueFns) (w : World) (A1 : Option Addr) (n1 cap1 : Nat) (i1 : IsRecs paids Pd.fits w A1 n1 cap1) (a : Int) (ha : (Lit.int .i8 a).wf = true) (b : Int) (hb : (Lit.int .i8 b).wf = true) :
    Calls Try.prog 7 #[.slice A1 n1 cap1, .int .i8 a, .int .i8 b] w fun e w' => e = .returned (.bool true) ∧ Below w.heap.size w w' := by
  obtain ⟨zs, hl1, hr1, hf1, hnc1, hcm1, _⟩ := recs_list i1
  have hmin := min_i8 (P := Try.prog) a b
  have hmax := max_i8 (P := Try.prog) a b
  have ha := i8_in ha
  have hb := i8_in hb
  obtain ⟨x, hx⟩ : ∃ x, (if b < a then b else a) = x := ⟨_, rfl⟩
  obtain ⟨y, hy⟩ : ∃ y, (if a < b then b else a) = y := ⟨_, rfl⟩
  rw [hx] at hmin
  rw [hy] at hmax
  have hx1 : -128 ≤ x ∧ x ≤ 127 := by rw [← hx]; split <;> omega
  have hy1 : -128 ≤ y ∧ y ≤ 127 := by rw [← hy]; split <;> omega
  have HXY := Lib.hid (show x ≤ y by rw [← hx, ← hy]; split <;> split <;> omega)
  have HR1 := Lib.hid hr1
  have HF1 := Lib.hid hf1
  have HL1 := Lib.hid hl1
  have HH := Lib.hid H
  have HC := Lib.hid (And.intro hnc1 hcm1)
  clear i1 hr1 hf1 hl1 H hnc1 hcm1 hx hy ha hb
  go_enter Try.func7, Try.ntmps7
  go_wp2_with fail
  refine (dawake_ok HH.out w).mono ?_
  rintro _ w1 ⟨rfl, hb1⟩
  have HB1 := Lib.hid hb1
  have HP := Lib.hid (payments_any A1 n1 cap1 zs w1 HL1.out (HR1.out.below hb1) HF1.out HC.out.1 HC.out.2)
  clear hb1
  go_wp2_with fail
  refine HP.out.mono ?_
  rintro _ w2 ⟨vx, rfl, hox, hb2⟩
  obtain ⟨xs, hxs⟩ : ∃ xs, (zs.take 300).map Pd.pay = xs := ⟨_, rfl⟩
  have hxl : xs.length ≤ 300 := by rw [← hxs, List.length_map, List.length_take]; omega
  rw [hxs] at hox
  obtain ⟨Ax, cx, hvx, hrx, _, _, _⟩ := hox.form
  obtain ⟨k, hk⟩ : ∃ k, xs.length = k := ⟨_, rfl⟩
  rw [hk] at hvx hxl
  subst hvx
  have HRX := Lib.hid hrx
  have HB2 := Lib.hid (HB1.out.trans (hb2.mono HB1.out.size))
  have HA := Lib.hid (HH.out.by_ Ax k cx xs x w2 hk hrx (by omega))
  have HK := Lib.hid hk
  clear hox hb2 hrx hxs hk HP HB1 HR1 HF1 HL1
  go_wp2_with fail
  refine HA.out.mono ?_
  rintro _ w3 ⟨v3, o3, rfl, hd3, ho3, hb3⟩
  obtain ⟨A3, c3, rfl, _, _, hr3, _⟩ := ho3.form
  have HB3 := Lib.hid (HB2.out.trans (hb3.mono HB2.out.size))
  have HD := Lib.hid (HH.out.by_ Ax k cx xs y w3 HK.out (HRX.out.below hb3) (by omega))
  have HD3 := Lib.hid hd3
  have HR3 := Lib.hid hr3
  obtain ⟨l, hl⟩ : ∃ l, (byL xs x o3).length = l := ⟨_, rfl⟩
  rw [hl] at HR3
  clear hd3 ho3 hb3 hr3 HA HRX HB2
  simp only [hl]
  go_wp2_with fail
  refine HD.out.mono ?_
  rintro _ w4 ⟨v4, o4, rfl, hd4, ho4, hb4⟩
  obtain rfl := hd4.same HD3.out
  obtain ⟨A4, c4, rfl, hnc4, hcm4, hr4, _⟩ := ho4.form
  have HB4 := Lib.hid (HB3.out.trans (hb4.mono HB3.out.size))
  obtain ⟨m, hm⟩ : ∃ m, (byL xs y o4).length = m := ⟨_, rfl⟩
  have hlm : l ≤ m := by rw [← hl, ← hm]; exact byL_le_len HXY.out _
  have hmn : m ≤ 300 := by rw [← hm]; have h1 := byL_len xs y o4; have h2 := HD3.out.len; have h3 := HK.out; omega
  rw [hm] at hnc4 hr4
  have hfr := fun W => run_frontInts W A4 m c4 l (by omega)
  have hr5 : Rd .i64 w4 A4 l (byL xs x o4) := by
    refine ⟨hl, fun h0 => ?_⟩
    obtain ⟨ad, e, hc⟩ := hr4.2 (by omega)
    refine ⟨ad, e, fun j hj => ?_⟩
    rw [hc j (by omega)]
    have hle := byL_le (ps := xs) HXY.out o4
    rw [hl] at hle
    rw [← hle]
    simp [List.getD, hj]
  have HS := Lib.hid (dsame_yes A3 A4 l c3 c4 _ w4 (HR3.out.below hb4) hr5 (by omega))
  have c1 : (l : Int) ≤ (m : Int) := by omega
  clear hd4 ho4 hb4 hr4 hr5 HR3 HD HB3 hcm4 hnc4
  simp only [hm]
  go_wp2_with fail
  refine HS.out.mono ?_
  rintro _ w5 ⟨rfl, hb5⟩
  have HB5 := Lib.hid (HB4.out.trans (hb5.mono HB4.out.size))
  clear hb5
  go_wp2
  go_ret
  exact ⟨rfl, HB5.out⟩
end Go.Proofs.Ytdepidemciigkaa
