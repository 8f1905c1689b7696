/-
  The statement DueNext by its walk, of what due answers.
-/
import Derived.Test.YtdepidemciigkaaDueTimeLaw
import Derived.Test.YtdepidemciigkaaDueLawAll
namespace Go.Proofs.Ytdepidemciigkaa
open Go Go.RowKit
set_option linter.unusedVariables false

set_option maxRecDepth 100000 in
set_option maxHeartbeats 1000000 in
theorem dueNext_of (H : DueFns) (w : World) (A1 : Option Addr) (n1 cap1 : Nat) (i1 : IsRecs paids Pd.fits w A1 n1 cap1) :
    Calls Try.prog 5 #[.slice A1 n1 cap1] w fun e w' => e = .returned (.bool true) ∧ Below w.heap.size w w' := by
  obtain ⟨zs, hl1, hr1, hf1, hnc1, hcm1, _⟩ := recs_list i1
  have HR1 := Lib.hid hr1
  have HF1 := Lib.hid hf1
  have HL1 := Lib.hid hl1
  have HH := Lib.hid H
  have HC := Lib.hid (And.intro hnc1 hcm1)
  clear i1 hr1 hf1 hl1 H hnc1 hcm1
  go_enter Try.func5, Try.ntmps5
  go_wp2_with fail
  refine (dawake_ok HH.out w).mono ?_
  rintro _ w1 ⟨rfl, hb1⟩
  have HB1 := Lib.hid hb1
  have HP := Lib.hid (payments_any A1 n1 cap1 zs w1 HL1.out (HR1.out.below hb1) HF1.out HC.out.1 HC.out.2)
  clear hb1
  go_wp2_with fail
  refine HP.out.mono ?_
  rintro _ w2 ⟨vx, rfl, hox, hb2⟩
  obtain ⟨xs, hxs⟩ : ∃ xs, (zs.take 300).map Pd.pay = xs := ⟨_, rfl⟩
  have hxl : xs.length ≤ 300 := by rw [← hxs, List.length_map, List.length_take]; omega
  have hxr : ∀ (q : Nat) p, xs[q]? = some p → p.right := by
    intro q p hq
    rw [← hxs, List.getElem?_map] at hq
    obtain ⟨z, hz, rfl⟩ := Option.map_eq_some_iff.1 hq
    rw [List.getElem?_take] at hz
    split at hz
    · exact z.right (HF1.out q z hz)
    · cases hz
  rw [hxs] at hox
  obtain ⟨Ax, cx, hvx, hrx, _, _, _⟩ := hox.form
  obtain ⟨n, hn⟩ : ∃ n, xs.length = n := ⟨_, rfl⟩
  rw [hn] at hvx hxl
  subst hvx
  have HRX := Lib.hid hrx
  have HXR := Lib.hid hxr
  have HB2 := Lib.hid (HB1.out.trans (hb2.mono HB1.out.size))
  have HA := Lib.hid (HH.out.next Ax n cx xs w2 hn hrx (by omega))
  have HN := Lib.hid hn
  clear hox hb2 hrx hxs hn hxr HP HB1 HR1 HF1 HL1
  go_wp2_with fail
  refine HA.out.mono ?_
  rintro _ w3 ⟨out, hd, rfl, hb3⟩
  have HD := Lib.hid hd
  have HB3 := Lib.hid (HB2.out.trans (hb3.mono HB2.out.size))
  have HRX3 := Lib.hid (HRX.out.below hb3)
  have HL := Lib.hid (dall_any Ax n cx xs w3 HN.out HRX3.out (by omega))
  clear hd hb3 HRX HB2 HA
  cases out with
  | nil =>
    rw [show nextN xs [] = 0 from rfl, show nextB [] = false from rfl]
    go_wp2_with fail
    refine HL.out.mono ?_
    rintro _ w4 ⟨v4, o4, rfl, hd4, ho4, hb4⟩
    obtain rfl := hd4.same HD.out
    obtain ⟨A4, c4, hv4, _, _, _, _⟩ := ho4.form
    rw [show ([] : List Int).length = 0 from rfl] at hv4
    subst hv4
    have HB4 := Lib.hid (HB3.out.trans (hb4.mono HB3.out.size))
    have HBY := Lib.hid (HH.out.by_ Ax n cx xs 1099511627776 w4 HN.out (HRX3.out.below hb4) (by omega))
    clear hd4 ho4 hb4 HL HB3 HRX3
    go_wp2_with fail
    refine HBY.out.mono ?_
    rintro _ w5 ⟨v5, o5, rfl, hd5, ho5, hb5⟩
    obtain rfl := hd5.same HD.out
    obtain ⟨A5, c5, hv5, _, _, _, _⟩ := ho5.form
    rw [show (byL xs 1099511627776 []).length = 0 from rfl] at hv5
    subst hv5
    have HB5 := Lib.hid (HB4.out.trans (hb5.mono HB4.out.size))
    clear hd5 ho5 hb5 HBY HB4
    go_wp2
    go_ret
    exact ⟨rfl, HB5.out⟩
  | cons a r =>
    rw [show nextN xs (a :: r) = tilP xs a from rfl, show nextB (a :: r) = true from rfl]
    obtain ⟨q, hq, rfl, _⟩ := (HD.out.mem a).1 (List.mem_cons_self ..)
    rw [HN.out] at hq
    obtain ⟨p, hp⟩ : ∃ p, xs[q]? = some p := ⟨_, List.getElem?_eq_getElem (by rw [HN.out]; exact hq)⟩
    have htil : tilP xs (q : Int) = p.til := by rw [tilP_nat, getD_of hp]
    have hpr := HXR.out q p hp
    obtain ⟨u, hu⟩ : ∃ u, p.til = u := ⟨_, rfl⟩
    have hu0 : 0 ≤ u ∧ u ≤ 1073741824 := by rw [← hu]; exact hpr.2.2.2.1
    rw [hu] at htil
    rw [htil]
    have HBN := Lib.hid (show byL xs (u - 1) ((q : Int) :: r) = [] from byL_none fun a' r' e => by injection e with e1 e2; subst e1; rw [htil]; omega)
    have HBU := Lib.hid (show byL xs u ((q : Int) :: r) = (q : Int) :: byL xs u r by rw [byL_cons, if_pos (by rw [htil]; exact Int.le_refl _)])
    have HP := Lib.hid hp
    have HU := Lib.hid hu
    have HTL := Lib.hid (show r.length ≤ 300 by have := HD.out.len; rw [List.length_cons, HN.out] at this; omega)
    have uu := beq_self_eq_true u
    clear hp hpr hu htil
    go_wp2_with fail
    refine HL.out.mono ?_
    rintro _ w4 ⟨v4, o4, rfl, hd4, ho4, hb4⟩
    obtain rfl := hd4.same HD.out
    obtain ⟨A4, c4, rfl, _, _, hr4, _⟩ := ho4.form
    obtain ⟨m, hm⟩ : ∃ m, r.length = m := ⟨_, rfl⟩
    rw [List.length_cons, hm] at hr4
    have hm3 : m ≤ 300 := by rw [← hm]; exact HTL.out
    have qm := eqF (show ¬ ((m + 1 : Nat) : Int) = 0 by omega)
    obtain ⟨ad4, rfl, d4⟩ := hr4.at_ (j := 0) (by omega)
    simp at d4
    rw [show ad4.add 0 = ad4 by unfold Addr.add; split <;> simp_all] at d4
    obtain ⟨adx, rfl, hat⟩ := (HRX3.out.below hb4).at_ HP.out
    obtain ⟨_, _, _, _, _, _, t6, _⟩ := pay_cells hat
    rw [HU.out] at t6
    have HB4 := Lib.hid (HB3.out.trans (hb4.mono HB3.out.size))
    have HRX4 := Lib.hid (HRX3.out.below hb4)
    have HBY := Lib.hid (HH.out.by_ (some adx) n cx xs (u - 1) w4 HN.out HRX4.out (by omega))
    simp only [List.length_cons, hm]
    clear hd4 ho4 hb4 hr4 hat HL HB3 HRX3
    go_wp2_with fail
    refine HBY.out.mono ?_
    rintro _ w5 ⟨v5, o5, rfl, hd5, ho5, hb5⟩
    obtain rfl := hd5.same HD.out
    rw [HBN.out] at ho5
    obtain ⟨A5, c5, hv5, _, _, _, _⟩ := ho5.form
    rw [show ([] : List Int).length = 0 from rfl] at hv5
    subst hv5
    have HB5 := Lib.hid (HB4.out.trans (hb5.mono HB4.out.size))
    have HBY2 := Lib.hid (HH.out.by_ (some adx) n cx xs u w5 HN.out (HRX4.out.below hb5) (by omega))
    clear hd5 ho5 hb5 HBY HB4 HRX4 d4 t6
    go_wp2_with fail
    refine HBY2.out.mono ?_
    rintro _ w6 ⟨v6, o6, rfl, hd6, ho6, hb6⟩
    obtain rfl := hd6.same HD.out
    rw [HBU.out] at ho6
    obtain ⟨A6, c6, hv6, _, _, _, _⟩ := ho6.form
    obtain ⟨j, hj⟩ : ∃ j, (byL xs u r).length = j := ⟨_, rfl⟩
    rw [List.length_cons, hj] at hv6
    subst hv6
    have hj3 : j ≤ 300 := by rw [← hj]; have := byL_len xs u r; omega
    have HB6 := Lib.hid (HB5.out.trans (hb6.mono HB5.out.size))
    clear hd6 ho6 hb6 HBY2 HB5 hj
    go_wp2
    go_ret
    exact ⟨rfl, HB6.out⟩
end Go.Proofs.Ytdepidemciigkaa
