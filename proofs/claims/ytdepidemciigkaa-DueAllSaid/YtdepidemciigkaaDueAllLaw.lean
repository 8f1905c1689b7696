/-
  The statement DueAll by its walk, of what due answers.
-/
import Derived.Test.YtdepidemciigkaaDueSpec
import Derived.Test.YtdepidemciigkaaDueSame
import Derived.Test.YtdepidemciigkaaDueLawAll
import Derived.Test.YtdepidemciigkaaDuePays
namespace Go.Proofs.Ytdepidemciigkaa
open Go Go.RowKit
set_option linter.unusedVariables false

theorem take_len {α : Type} (zs : List α) (n m : Nat) (hl : zs.length = n) (hm : m = min n 300) : (zs.take m).length = m := by rw [List.length_take]; omega

set_option maxRecDepth 100000 in
set_option maxHeartbeats 1000000 in
theorem dueAll_of (H : DueFns) (w : World) (A1 : Option Addr) (n1 cap1 : Nat) (i1 : IsRecs paids Pd.fits w A1 n1 cap1) (A2 : Option Addr) (n2 cap2 : Nat) (i2 : IsRecs pays Py.fits w A2 n2 cap2) :
    Calls Try.prog 3 #[.slice A1 n1 cap1, .slice A2 n2 cap2] w fun e w' => e = .returned (.bool true) ∧ Below w.heap.size w w' := by
  obtain ⟨zs, hl1, hr1, hf1, hnc1, hcm1, _⟩ := recs_list i1
  obtain ⟨rs, hl2, hr2, hf2, hnc2, hcm2, _⟩ := recs_list i2
  have hmx : maxLen = 9223372036854775807 := rfl
  obtain ⟨m, hm⟩ : ∃ m, m = min n2 300 := ⟨_, rfl⟩
  have hmin := min2_ok (P := Try.prog) n2 300 m (n2 : Int) 300 rfl rfl hm
  have hfr := fun W => run_frontPay W A2 n2 cap2 m (by omega)
  have hm3 : m ≤ 300 := by omega
  have HR1 := Lib.hid hr1
  have HF1 := Lib.hid hf1
  have HL1 := Lib.hid hl1
  have HR2 := Lib.hid (hr2.front m)
  have HL2 := Lib.hid (take_len rs n2 m hl2 hm)
  have HT2 := Lib.hid ((Tils.of hf2).front m)
  obtain ⟨ts, hts⟩ : ∃ ts, rs.take m = ts := ⟨_, rfl⟩
  rw [hts] at HR2 HL2 HT2
  have HH := Lib.hid H
  have HC := Lib.hid (And.intro hnc1 hcm1)
  have hn2 : n2 ≤ 9223372036854775807 := by omega
  clear i1 i2 hr1 hf1 hl1 hr2 hl2 hf2 hts H hnc1 hcm1 hnc2 hcm2 hmx hm
  go_enter Try.func3, Try.ntmps3
  go_wp2_with fail
  refine (dawake_ok HH.out w).mono ?_
  rintro _ w1 ⟨rfl, hb1⟩
  have HB1 := Lib.hid hb1
  have HP := Lib.hid (payments_any A1 n1 cap1 zs w1 HL1.out (HR1.out.below hb1) HF1.out HC.out.1 HC.out.2)
  clear hb1
  go_wp2_with fail
  refine HP.out.mono ?_
  rintro _ w2 ⟨vx, rfl, hox, hb2⟩
  obtain ⟨xs, hxs⟩ : ∃ xs, (zs.take 300).map Pd.pay = xs := ⟨_, rfl⟩
  have HTX := Lib.hid (show Tils xs from hxs ▸ Tils.of (pays_fit HF1.out 300))
  have hxl : xs.length ≤ 300 := by rw [← hxs, List.length_map, List.length_take]; omega
  rw [hxs] at hox
  obtain ⟨Ax, cx, hvx, hrx, _, _, _⟩ := hox.form
  obtain ⟨k, hk⟩ : ∃ k, xs.length = k := ⟨_, rfl⟩
  rw [hk] at hvx hxl
  subst hvx
  have HRX := Lib.hid hrx
  have HB2 := Lib.hid (HB1.out.trans (hb2.mono HB1.out.size))
  have HA := Lib.hid (HH.out.all Ax k cx xs w2 hk hrx (by omega) HTX.out)
  have HK := Lib.hid hk
  clear hox hb2 hrx hxs hk HP HB1 HR1 HF1 HL1
  go_wp2_with fail
  refine HA.out.mono ?_
  rintro _ w3 ⟨v3, o3, rfl, hd3, ho3, hb3⟩
  obtain ⟨A3, c3, rfl, _, _, hr3, _⟩ := ho3.form
  have HB3 := Lib.hid (HB2.out.trans (hb3.mono HB2.out.size))
  have HRX3 := Lib.hid (HRX.out.below hb3)
  have HD := Lib.hid (dall_any Ax k cx xs w3 HK.out HRX3.out (by omega))
  have HD3 := Lib.hid hd3
  have HR3 := Lib.hid hr3
  have HLE := Lib.hid hd3.len
  obtain ⟨l, hl⟩ : ∃ l, o3.length = l := ⟨_, rfl⟩
  rw [hl] at HR3 HLE
  clear hd3 ho3 hb3 hr3 HA HRX HB2
  simp only [hl]
  go_wp2_with fail
  refine HD.out.mono ?_
  rintro _ w4 ⟨v4, o4, rfl, hd4, ho4, hb4⟩
  obtain rfl := hd4.same HD3.out
  rw [hl] at ho4
  obtain ⟨A4, c4, rfl, _, _, hr4, _⟩ := ho4.form
  have HB4 := Lib.hid (HB3.out.trans (hb4.mono HB3.out.size))
  have HS := Lib.hid (dsame_yes A3 A4 l c3 c4 o4 w4 (HR3.out.below hb4) hr4 (by have := HLE.out; have := HK.out; omega))
  clear hd4 ho4 hb4 hr4 HR3 HD HB3 HRX3
  go_wp2_with fail
  refine HS.out.mono ?_
  rintro _ w5 ⟨rfl, hb5⟩
  have HB5 := Lib.hid (HB4.out.trans (hb5.mono HB4.out.size))
  have HA5 := Lib.hid (HH.out.all A2 m cap2 ts w5 HL2.out (HR2.out.below HB5.out) (by omega) HT2.out)
  clear hb5 HB4 HS hl HD3 HLE
  go_wp2_with fail
  refine HA5.out.mono ?_
  rintro _ w6 ⟨v6, o6, rfl, hd6, ho6, hb6⟩
  obtain ⟨A6, c6, rfl, _, _, hr6, _⟩ := ho6.form
  have HB6 := Lib.hid (HB5.out.trans (hb6.mono HB5.out.size))
  have HD6 := Lib.hid (dall_any A2 m cap2 ts w6 HL2.out (HR2.out.below HB6.out) (by omega))
  have HD3 := Lib.hid hd6
  have HR6 := Lib.hid hr6
  have HLE := Lib.hid hd6.len
  obtain ⟨l, hl⟩ : ∃ l, o6.length = l := ⟨_, rfl⟩
  rw [hl] at HR6 HLE
  clear hd6 ho6 hb6 hr6 HA5 HB5
  simp only [hl]
  go_wp2_with fail
  refine HD6.out.mono ?_
  rintro _ w7 ⟨v7, o7, rfl, hd7, ho7, hb7⟩
  obtain rfl := hd7.same HD3.out
  rw [hl] at ho7
  obtain ⟨A7, c7, rfl, _, _, hr7, _⟩ := ho7.form
  have HB7 := Lib.hid (HB6.out.trans (hb7.mono HB6.out.size))
  have HS := Lib.hid (dsame_yes A6 A7 l c6 c7 o7 w7 (HR6.out.below hb7) hr7 (by have := HLE.out; have := HL2.out; omega))
  clear hd7 ho7 hb7 hr7 HR6 HD6 HB6
  go_wp2_with fail
  refine HS.out.mono ?_
  rintro _ w8 ⟨rfl, hb8⟩
  have HB8 := Lib.hid (HB7.out.trans (hb8.mono HB7.out.size))
  clear hb8
  go_wp2
  go_ret
  exact ⟨rfl, HB8.out⟩
end Go.Proofs.Ytdepidemciigkaa
