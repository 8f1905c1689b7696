/-
  The statement DueBy by its walk, of what due answers.
-/
import Derived.Test.YtdepidemciigkaaDueTimeLaw
import Derived.Test.YtdepidemciigkaaDueLawAll
namespace Go.Proofs.Ytdepidemciigkaa
open Go Go.RowKit
set_option linter.unusedVariables false

/-- Those of the first j whose time is over. -/
def overL (ps : List Py) (now : Int) (l : List Int) : List Int := l.filter fun k => decide (tilP ps k ≤ now)
theorem overL_snoc (ps : List Py) (now : Int) (l : List Int) (a : Int) : overL ps now (l ++ [a]) = overL ps now l ++ (if tilP ps a ≤ now then [a] else []) := by
  unfold overL
  rw [List.filter_append]
  by_cases h : tilP ps a ≤ now <;> simp [h]
theorem overL_len (ps : List Py) (now : Int) (l : List Int) : (overL ps now l).length ≤ l.length := List.length_filter_le _ _

set_option maxRecDepth 100000 in
set_option maxHeartbeats 1000000 in
theorem dueBy_of (H : DueFns) (w : World) (A1 : Option Addr) (n1 cap1 : Nat) (i1 : IsRecs paids Pd.fits w A1 n1 cap1) (now : Int) (hnow : (Lit.int .i8 now).wf = true) :
    Calls Try.prog 4 #[.slice A1 n1 cap1, .int .i8 now] w fun e w' => e = .returned (.bool true) ∧ Below w.heap.size w w' := by
  obtain ⟨zs, hl1, hr1, hf1, hnc1, hcm1, _⟩ := recs_list i1
  have hnow := i8_in hnow
  have HR1 := Lib.hid hr1
  have HF1 := Lib.hid hf1
  have HL1 := Lib.hid hl1
  have HH := Lib.hid H
  have HC := Lib.hid (And.intro hnc1 hcm1)
  clear i1 hr1 hf1 hl1 H hnc1 hcm1
  go_enter Try.func4, Try.ntmps4
  go_wp2_with fail
  refine (dawake_ok HH.out w).mono ?_
  rintro _ w1 ⟨rfl, hb1⟩
  have HB1 := Lib.hid hb1
  have HP := Lib.hid (payments_any A1 n1 cap1 zs w1 HL1.out (HR1.out.below hb1) HF1.out HC.out.1 HC.out.2)
  clear hb1
  go_wp2_with fail
  refine HP.out.mono ?_
  rintro _ w2 ⟨vx, rfl, hox, hb2⟩
  obtain ⟨xs, hxs⟩ : ∃ xs, (zs.take 300).map Pd.pay = xs := ⟨_, rfl⟩
  have hxl : xs.length ≤ 300 := by rw [← hxs, List.length_map, List.length_take]; omega
  rw [hxs] at hox
  obtain ⟨Ax, cx, hvx, hrx, _, _, _⟩ := hox.form
  obtain ⟨n, hn⟩ : ∃ n, xs.length = n := ⟨_, rfl⟩
  rw [hn] at hvx hxl
  subst hvx
  have HRX := Lib.hid hrx
  have HB2 := Lib.hid (HB1.out.trans (hb2.mono HB1.out.size))
  have HA := Lib.hid (dall_any Ax n cx xs w2 hn hrx (by omega))
  have HN := Lib.hid hn
  clear hox hb2 hrx hxs hn HP HB1 HR1 HF1 HL1
  go_wp2_with fail
  refine HA.out.mono ?_
  rintro _ w4 ⟨v3, out, rfl, hd3, ho3, hb3⟩
  obtain ⟨A3, c3, rfl, _, _, hr3, _⟩ := ho3.form
  have HB4 := Lib.hid (HB2.out.trans (hb3.mono HB2.out.size))
  have HRX4 := Lib.hid (HRX.out.below hb3)
  have HD3 := Lib.hid hd3
  have HR3 := Lib.hid hr3
  have hle := hd3.len
  obtain ⟨l, hl⟩ : ∃ l, out.length = l := ⟨_, rfl⟩
  rw [hl] at HR3 hle
  rw [HN.out] at hle
  have HLL := Lib.hid hl
  simp only [hl]
  clear hd3 ho3 hb3 hr3 HA HRX HB2 hl
  go_wp2
  go_loopw [6, 16] (fun v i wr => ∃ j : Nat, j ≤ l ∧ i = .int .i64 (j : Int) ∧ Own 3 .i64 wr w4.heap.size v (overL xs now (out.take j)).length (overL xs now (out.take j)) ∧ Below w4.heap.size w4 wr) (fun _ i _ => l - (intOf i).toNat)
  case atStart => exact ⟨0, Nat.zero_le _, rfl, Own.nil, Below.refl _ _⟩
  case round =>
    obtain ⟨j, hj, rfl, hown, hbel⟩ := hrel
    have HOWN := Lib.hid hown
    have HBEL := Lib.hid hbel
    have hsz := hbel.size
    clear hown hbel
    by_cases hlt : j < l
    · obtain ⟨ad3, rfl, d3⟩ := (HR3.out.below HBEL.out).at_ hlt
      obtain ⟨a, ha⟩ : ∃ a, out[j]? = some a := ⟨_, List.getElem?_eq_getElem (by rw [HLL.out]; exact hlt)⟩
      rw [show out.getD j 0 = a by simp [List.getD, ha]] at d3
      obtain ⟨q, hq, rfl, _⟩ := (HD3.out.mem a).1 (List.mem_of_getElem? ha)
      rw [HN.out] at hq
      obtain ⟨p, hp⟩ : ∃ p, xs[q]? = some p := ⟨_, List.getElem?_eq_getElem (by rw [HN.out]; exact hq)⟩
      obtain ⟨adx, rfl, hat⟩ := (HRX4.out.below HBEL.out).at_ hp
      obtain ⟨_, _, _, _, _, _, t6, _⟩ := pay_cells hat
      have htil : tilP xs (q : Int) = p.til := by rw [tilP_nat, getD_of hp]
      obtain ⟨u, hu⟩ : ∃ u, p.til = u := ⟨_, rfl⟩
      rw [hu] at t6 htil
      have HNX := Lib.hid (show overL xs now (out.take (j + 1)) = overL xs now (out.take j) ++ (if u ≤ now then [(q : Int)] else []) by rw [take_more ha, overL_snoc, htil])
      obtain ⟨m, hm⟩ : ∃ m, (overL xs now (out.take j)).length = m := ⟨_, rfl⟩
      have hmj : m ≤ j := by rw [← hm]; exact Nat.le_trans (overL_len _ _ _) (by rw [List.length_take]; omega)
      rw [hm] at HOWN
      have HM := Lib.hid hm
      clear ha hp hat htil hu hm
      by_cases hun : u ≤ now
      · have q1 := decide_eq_true hun
        rw [if_pos hun] at HNX
        clear hun
        go_wp2_with (at_builtin; refine wpList_append_ints _ rfl (.tmp 28) (.tmp 30) 27 rfl .i64 8 w4.heap.size 3 Try.underlying27 info_num _ m _ rfl (HOWN.out.alloc _) (some ⟨wr.heap.size, 0, none⟩) 1 1 [(q : Int)] rfl (by first | exact Rd.one _ | (have h := Rd.one (k := .i64) (w := wr) (t := 3) (q : Int); simpa using h)) (by omega) (by omega) (by simp; omega) ?_; intro v' w5 ho2 hg2)
        have HO2 := Lib.hid ho2
        have HB5 := Lib.hid ((HBEL.out.alloc hsz _).grown hg2 (by simp; omega) HOWN.out.rowLt)
        clear ho2 hg2
        go_wp2
        go_roundw
        case rel => exact ⟨j + 1, by omega, by go_num, by rw [HNX.out, List.length_append, HM.out]; exact HO2.out, HB5.out⟩
        case measure => simp [intOf]; omega
      · have q1 := decide_eq_false hun
        rw [if_neg hun, List.append_nil] at HNX
        clear hun
        go_wp2
        go_roundw
        case rel => exact ⟨j + 1, by omega, by go_num, by rw [HNX.out, HM.out]; exact HOWN.out, HBEL.out⟩
        case measure => simp [intOf]; omega
    · obtain rfl : j = l := by omega
      have HW := Lib.hid (show overL xs now (out.take j) = byL xs now out by rw [List.take_of_length_le (by rw [HLL.out]; exact Nat.le_refl _)]; exact byL_filter _ HD3.out.order)
      rw [HW.out] at HOWN
      obtain ⟨A5, c5, rfl, _, _, hr5, _⟩ := HOWN.out.form
      obtain ⟨m, hm⟩ : ∃ m, (byL xs now out).length = m := ⟨_, rfl⟩
      have hmj : m ≤ j := by rw [← hm, ← HLL.out]; exact byL_len _ _ _
      rw [hm] at hr5
      have HR5 := Lib.hid hr5
      have HB5 := Lib.hid (HB4.out.trans (HBEL.out.mono HB4.out.size))
      have HBY := Lib.hid (HH.out.by_ Ax n cx xs now wr HN.out (HRX4.out.below HBEL.out) (by omega))
      simp only [hm]
      clear hr5 HOWN HW HRX4 HBEL
      go_wp2_with fail
      refine HBY.out.mono ?_
      rintro _ w6 ⟨v6, o6, rfl, hd6, ho6, hb6⟩
      obtain rfl := hd6.same HD3.out
      rw [hm] at ho6
      obtain ⟨A6, c6, rfl, _, _, hr6, _⟩ := ho6.form
      have HB6 := Lib.hid (HB5.out.trans (hb6.mono HB5.out.size))
      have HS := Lib.hid (dsame_yes A6 A5 m c6 c5 _ w6 hr6 (HR5.out.below hb6) (by omega))
      clear hd6 ho6 hb6 hr6 HR5 HBY HB5 hm
      go_wp2_with fail
      refine HS.out.mono ?_
      rintro _ w7 ⟨rfl, hb7⟩
      have HB7 := Lib.hid (HB6.out.trans (hb7.mono HB6.out.size))
      clear hb7
      go_wp2
      go_ret
      exact ⟨rfl, HB7.out⟩
end Go.Proofs.Ytdepidemciigkaa
