/-
  The statement DueMore by its walk, of what due answers.
-/
import Derived.Test.YtdepidemciigkaaDueTimeLaw
import Derived.Test.YtdepidemciigkaaDueLawAll
import Derived.Test.YtdepidemciigkaaDueMorePlain
import Derived.Test.YtdepidemciigkaaShapeClone
import Derived.Test.YtdepidemciigkaaPayCells
import Derived.Deep.RegionWith
import Derived.Deep.CutRange
namespace Go.Proofs.Ytdepidemciigkaa
open Go Go.RowKit
set_option linter.unusedVariables false

theorem take_map_len {zs : List Pd} : ((zs.take 300).map Pd.pay).length ≤ 300 := by rw [List.length_map, List.length_take]; omega

theorem pay_stage (a b c d e f g h : Int) (w : World) : (Instr.field 33 (.agg #[.int .i64 a, .int .i64 b, .int .i64 c, .int .i64 d, .int .i64 e, .int .i64 f, .int .i64 g, .int .i64 h]) 7).run Try.prog w = .ok (.int .i64 h) w := by kernel_rfl

set_option maxRecDepth 100000 in
set_option maxHeartbeats 2000000 in
theorem dueMore_of (H : DueFns) (w : World) (A1 : Option Addr) (n1 cap1 : Nat) (i1 : IsRecs paids Pd.fits w A1 n1 cap1) (z : Pd) (hz : z.fits) :
    Calls Try.prog 6 #[.slice A1 n1 cap1, z.val] w fun e w' => e = .returned (.bool true) ∧ Below w.heap.size w w' := by
  obtain ⟨zs, hl1, hr1, hf1, hnc1, hcm1, _⟩ := recs_list i1
  have HA := Lib.hid (fun W => paid_any z hz W)
  have HQF := Lib.hid (z.pay_fits hz)
  obtain ⟨⟨qf, qd, qa, qc, qr, qg, qt, qs⟩, hq⟩ : ∃ q, q = z.pay := ⟨_, rfl⟩
  rw [← hq] at HA HQF
  obtain ⟨zf, zt, za, zc, zr, zg, zu, zl⟩ := z
  unfold PyRes Py.val at HA
  unfold Pd.val at HA ⊢
  dsimp only at HA ⊢
  have HR1 := Lib.hid hr1
  have HF1 := Lib.hid hf1
  have HL1 := Lib.hid hl1
  have HH := Lib.hid H
  have HC := Lib.hid (And.intro hnc1 hcm1)
  have HZ := Lib.hid (Pd8.new w zf zt za zc zr zg zu zl)
  have HB0 := Lib.hid ((Below.refl w.heap.size w).alloc (Nat.le_refl _) (.cells #[.int .u8 (zf : Int), .int .u8 (zt : Int), .int .u8 (za : Int), .int .u8 (zc : Int), .int .u8 (zr : Int), .int .u8 (zg : Int), .int .u8 (zu : Int), .bool zl] 40))
  clear i1 hr1 hf1 hl1 H hnc1 hcm1 hq hz
  go_enter Try.func6, Try.ntmps6
  go_wp2_with fail
  refine (dawake_ok HH.out _).mono ?_
  rintro _ w1 ⟨rfl, hb1⟩
  have HB1 := Lib.hid (HB0.out.trans (hb1.mono (by simp)))
  have HZ1 := Lib.hid (HZ.out.below hb1 (by simp))
  have HP := Lib.hid (payments_any A1 n1 cap1 zs w1 HL1.out (HR1.out.below HB1.out) HF1.out HC.out.1 HC.out.2)
  have hz1 : w.heap.size < w1.heap.size := by have := hb1.size; simp at this; omega
  clear hb1 HB0 HZ
  go_wp2_with fail
  refine HP.out.mono ?_
  rintro _ w2 ⟨vx, rfl, hox, hb2⟩
  obtain ⟨xs, hxs⟩ : ∃ xs, (zs.take 300).map Pd.pay = xs := ⟨_, rfl⟩
  have HTX := Lib.hid (show Tils xs from hxs ▸ Tils.of (pays_fit HF1.out 300))
  have hxl : xs.length ≤ 300 := by rw [← hxs]; exact take_map_len
  rw [hxs] at hox
  obtain ⟨Ax, cx, hvx, hrx, _, _, _⟩ := hox.form
  obtain ⟨n, hn⟩ : ∃ n, xs.length = n := ⟨_, rfl⟩
  rw [hn] at hvx hxl
  subst hvx
  have HRX := Lib.hid hrx
  have HB2 := Lib.hid (HB1.out.trans (hb2.mono HB1.out.size))
  have HN := Lib.hid hn
  have hz2 : w.heap.size < w2.heap.size := by have := hb2.size; omega
  have HZ2 := Lib.hid (HZ1.out.below hb2 hz1)
  clear hox hb2 hrx hxs hn HP HB1 HR1 HF1 HL1 HZ1
  obtain ⟨x0, x1, x2, x3, x4, x5, x6, x7⟩ := HZ2.out.cells
  go_upto_region 4 with fail
  go_cut [6] from 14 (fun s wx => ∃ v, s = v ∧ OwnS pays wx w2.heap.size v (xs ++ [(⟨qf, qd, qa, qc, qr, qg, qt, qs⟩ : Py)]) ∧ Below w2.heap.size w2 wx)
  case first =>
   go_region_law (first
     | (refine step_clone_recs pays 23 Try.underlying23 info_pay rfl rfl 15 rfl (.tmp 14) rfl w2.heap.size xs Ax n cx rfl HN.out (by first | exact HRX.out.drew | exact HRX.out.below HBC.out | exact (HRX.out.below HBC.out).alloc _) (by omega) (by omega) (by first | exact Nat.le_refl _ | exact HBC.out.size | (rw [alloc_size]; exact Nat.le_succ_of_le HBC.out.size)) ?_
        intro v15 w4 ho4 hg4
        have HO4 := Lib.hid ho4
        have HB4 : Hid (Below w2.heap.size w2 w4) := Lib.hid (by first | exact ((Below.refl _ _).drew).grown hg4 (Nat.le_refl _) (fun g h => by cases h) | exact HBC.out.grown hg4 HBC.out.size (fun g h => by cases h) | exact (HBC.out.alloc HBC.out.size _).grown hg4 (by rw [alloc_size]; exact Nat.le_succ_of_le HBC.out.size) (fun g h => by cases h))
        obtain ⟨y0, y1, y2, y3, y4, y5, y6, y7⟩ := (HZ2.out.below HB4.out hz2).cells
        have HG4 := Lib.hid hg4
        clear ho4 hg4)
     | (go_simp; go_at_call 16; refine (HA.out _).mono ?_
        rintro _ w5 ⟨rfl, hb5⟩
        have HBC : Hid (Below w2.heap.size w2 w5) := Lib.hid (by first | exact HB4.out.trans (hb5.mono HB4.out.size) | exact (Below.refl _ _).drew.trans hb5)
        have HOC := Lib.hid (fun (_ : True) => hb5)
        clear hb5)
     | (refine step_append_rec pays 23 Try.underlying23 info_pay rfl rfl 19 rfl (.tmp 15) (.tmp 18) rfl w2.heap.size _ xs rfl (by first | exact (HO4.out.below (HOC.out trivial)).alloc _ | exact HO4.out.alloc _ | exact HO4.out) _ _ ⟨qf, qd, qa, qc, qr, qg, qt, qs⟩ rfl (by first | exact AtS.new rfl | exact fun i u hu => HG4.out.cell ((AtS.new rfl) i u hu) (by simp)) (by rw [HN.out]; omega) (by rw [HN.out]; omega) (by first | (rw [alloc_size]; exact Nat.le_succ_of_le HBC.out.size) | (rw [alloc_size]; exact Nat.le_succ_of_le HB4.out.size) | exact HB4.out.size) ?_
        intro v6 w6 ho6 hg6
        have HO6 := Lib.hid ho6
        have HB6 : Hid (Below w2.heap.size w2 w6) := Lib.hid (by first | exact (HBC.out.alloc HBC.out.size _).grown hg6 (by rw [alloc_size]; exact Nat.le_succ_of_le HBC.out.size) HO4.out.rowLt | exact (HB4.out.alloc HB4.out.size _).grown hg6 (by rw [alloc_size]; exact Nat.le_succ_of_le HB4.out.size) HO4.out.rowLt | exact HB4.out.grown hg6 HB4.out.size HO4.out.rowLt)
        clear ho6 hg6))
   all_goals
     go_wp2_with fail
     go_meet
     exact ⟨_, rfl, HO6.out, HB6.out⟩
  case rest =>
    obtain ⟨v6, rfl, ho6, hb6⟩ := hcut
    obtain ⟨w6, hw6⟩ : ∃ w6, wc = w6 := ⟨_, rfl⟩
    rw [hw6] at ho6 hb6 ⊢
    have HO6 := Lib.hid ho6
    have HB6 := Lib.hid hb6
    clear ho6 hb6 hw6
    obtain ⟨Ay, cy, hvy, hry, _, _, _⟩ := HO6.out.form
    rw [show (xs ++ [(⟨qf, qd, qa, qc, qr, qg, qt, qs⟩ : Py)]).length = n + 1 by rw [List.length_append, HN.out]; rfl] at hvy
    subst hvy
    have HRY := Lib.hid hry
    have HYL := Lib.hid (show (xs ++ [(⟨qf, qd, qa, qc, qr, qg, qt, qs⟩ : Py)]).length = n + 1 by rw [List.length_append, HN.out]; rfl)
    have HAY := Lib.hid (HH.out.all Ay (n + 1) cy _ w6 HYL.out hry (by omega) (HTX.out.more HQF.out))
    have HBW := Lib.hid (HB2.out.trans (HB6.out.mono HB2.out.size))
    have HZ6 := Lib.hid (HZ2.out.below HB6.out hz2)
    clear hry HO6 x0 x1 x2 x3 x4 x5 x6 x7
    go_wp2_with fail
    refine HAY.out.mono ?_
    rintro _ w7 ⟨v7, out, rfl, hd7, ho7, hb7⟩
    obtain ⟨A7, c7, rfl, _, _, hr7, _⟩ := ho7.form
    have HD7 := Lib.hid hd7
    have HR7 := Lib.hid hr7
    have HB7 := Lib.hid (HB6.out.trans (hb7.mono HB6.out.size))
    have HBY7 := Lib.hid hb7
    have hle := hd7.len
    rw [HYL.out] at hle
    obtain ⟨l, hl⟩ : ∃ l, out.length = l := ⟨_, rfl⟩
    rw [hl] at HR7 hle
    have HLL := Lib.hid hl
    simp only [hl]
    clear hd7 ho7 hb7 hr7 HAY hl
    go_wp2
    go_loopw [7, 23] (fun v i wr => ∃ j : Nat, j ≤ l ∧ i = .int .i64 (j : Int) ∧ Own 3 .i64 wr w7.heap.size v (restL n (out.take j)).length (restL n (out.take j)) ∧ Below w7.heap.size w7 wr) (fun _ i _ => l - (intOf i).toNat)
    case atStart => exact ⟨0, Nat.zero_le _, rfl, Own.nil, Below.refl _ _⟩
    case round =>
      obtain ⟨j, hj, rfl, hown, hbel⟩ := hrel
      have HOWN := Lib.hid hown
      have HBEL := Lib.hid hbel
      have hsz := hbel.size
      clear hown hbel
      by_cases hlt : j < l
      · obtain ⟨ad3, rfl, d3⟩ := (HR7.out.below HBEL.out).at_ hlt
        obtain ⟨a, ha⟩ : ∃ a, out[j]? = some a := ⟨_, List.getElem?_eq_getElem (by rw [HLL.out]; exact hlt)⟩
        rw [show out.getD j 0 = a by simp [List.getD, ha]] at d3
        obtain ⟨k, hk, rfl, _⟩ := (HD7.out.mem a).1 (List.mem_of_getElem? ha)
        have HNX := Lib.hid (show restL n (out.take (j + 1)) = restL n (out.take j) ++ (if (k : Int) < (n : Int) then [(k : Int)] else []) by rw [take_more ha, restL_snoc])
        obtain ⟨m, hm⟩ : ∃ m, (restL n (out.take j)).length = m := ⟨_, rfl⟩
        have hmj : m ≤ j := by rw [← hm]; exact Nat.le_trans (restL_len _ _) (by rw [List.length_take]; omega)
        rw [hm] at HOWN
        have HM := Lib.hid hm
        clear ha hm
        by_cases hkn : k < n
        · have q1 : decide (k < n) = true := decide_eq_true hkn
          rw [if_pos (by omega)] at HNX
          go_wp2_with (at_builtin; refine wpList_append_ints _ rfl (.tmp 31) (.tmp 33) 27 rfl .i64 8 w7.heap.size 3 Try.underlying27 info_num _ m _ rfl (HOWN.out.alloc _) (some ⟨wr.heap.size, 0, none⟩) 1 1 [(k : Int)] rfl (by first | exact Rd.one _ | (have h := Rd.one (k := .i64) (w := wr) (t := 3) (k : Int); simpa using h)) (by omega) (by omega) (by simp; omega) ?_; intro v' w9 ho2 hg2)
          have HO2 := Lib.hid ho2
          have HB9 := Lib.hid ((HBEL.out.alloc hsz _).grown hg2 (by simp; omega) HOWN.out.rowLt)
          clear ho2 hg2
          go_wp2
          go_roundw
          case rel => exact ⟨j + 1, by omega, by go_num, by rw [HNX.out, List.length_append, HM.out]; exact HO2.out, HB9.out⟩
          case measure => simp [intOf]; omega
        · have q1 : decide (k < n) = false := decide_eq_false hkn
          rw [if_neg (by omega), List.append_nil] at HNX
          go_wp2
          go_roundw
          case rel => exact ⟨j + 1, by omega, by go_num, by rw [HNX.out, HM.out]; exact HOWN.out, HBEL.out⟩
          case measure => simp [intOf]; omega
      · obtain rfl : j = l := by omega
        have HREST := Lib.hid (show DueIs xs (restL n out) by have h := HD7.out.rest; rw [HN.out] at h; exact h)
        have e0 : restL n (out.take j) = restL n out := by rw [List.take_of_length_le (by rw [HLL.out]; exact Nat.le_refl _)]
        rw [e0] at HOWN
        obtain ⟨A5, c5, rfl, _, _, hr5, _⟩ := HOWN.out.form
        obtain ⟨m, hm⟩ : ∃ m, (restL n out).length = m := ⟨_, rfl⟩
        have hmj : m ≤ j := by rw [← hm, ← HLL.out]; exact restL_len _ _
        rw [hm] at hr5
        have HR5 := Lib.hid hr5
        have HM := Lib.hid hm
        have HBX := Lib.hid (HB7.out.trans (HBEL.out.mono HB7.out.size))
        have HBY := Lib.hid (HBY7.out.trans (HBEL.out.mono HBY7.out.size))
        have HAX := Lib.hid (fun W (h : Below wr.heap.size wr W) => show Calls Try.prog 12 #[.slice Ax n cx] W fun e w' => ∃ A c, e = .returned (.slice A m c) ∧ Rd .i64 w' A m (restL n out) ∧ Below W.heap.size W w' from
          (HH.out.all Ax n cx xs W HN.out (HRX.out.below (HBX.out.trans (h.mono HBX.out.size))) (by omega) HTX.out).mono fun e w' ⟨v, o, he, hd, ho, hb⟩ => by
            obtain rfl := hd.same HREST.out
            obtain ⟨A, c, rfl, _, _, hr, _⟩ := ho.form
            rw [HM.out] at he hr
            exact ⟨A, c, he, hr, hb⟩)
        have HAY := Lib.hid (fun W (h : Below wr.heap.size wr W) => show Calls Try.prog 12 #[.slice Ay (n + 1) cy] W fun e w' => ∃ A c, e = .returned (.slice A j c) ∧ Below W.heap.size W w' from
          (HH.out.all Ay (n + 1) cy _ W HYL.out (HRY.out.below (HBY.out.trans (h.mono HBY.out.size))) (by omega) (HTX.out.more HQF.out)).mono fun e w' ⟨v, o, he, hd, ho, hb⟩ => by
            obtain rfl := hd.same HD7.out
            obtain ⟨A, c, rfl, _, _, hr, _⟩ := ho.form
            rw [HLL.out] at he
            exact ⟨A, c, he, hb⟩)
        have HAXd := Lib.hid (HAX.out wr.drew (show Below wr.heap.size wr wr.drew from (Below.refl _ _).drew))
        have HMJ := Lib.hid (show qs = 0 → m < j by
          intro h
          have h1 := HD7.out.more h
          rw [HN.out, HM.out, HLL.out] at h1
          exact h1)
        have HMJ' := Lib.hid (show ¬ qs = 0 → m = j by
          intro h
          have h1 := congrArg List.length (HD7.out.no_more h)
          rw [HN.out, HM.out, HLL.out] at h1
          exact h1)
        have hzw : w.heap.size < wr.heap.size := by have := HBX.out.size; omega
        have HZr := Lib.hid (HZ2.out.below HBX.out hz2)
        obtain ⟨x0, x1, x2, x3, x4, x5, x6, x7⟩ := HZr.out.cells
        have HBA := Lib.hid (HB2.out.trans (HBX.out.mono HB2.out.size))
        simp only [hm]
        clear hr5 HOWN HBX HBY HD7 HLL HREST e0 hm HR7 HRX HRY HB7 HBY7 HB6 HBEL HZ6 HZ2
        by_cases hs : qs = 0
        case' pos =>
          have q1 := eqT hs
          have q2 : decide ((m : Int) < (j : Int)) = true := decide_eq_true (by have := HMJ.out hs; omega)
          have q3 : decide (m < j) = true := decide_eq_true (HMJ.out hs)
        case' neg =>
          have q1 := eqF hs
          have q2 : decide ((m : Int) < (j : Int)) = false := decide_eq_false (by have := HMJ'.out hs; omega)
          have q3 : decide (m < j) = false := decide_eq_false (by have := HMJ'.out hs; omega)
        all_goals
          clear hs HMJ HMJ'
          have fs := pay_stage qf qd qa qc qr qg qt qs
          go_wp2
          go_region_law (first
            | (go_simp; go_at_call_of 12 Ax; refine HAXd.out.mono ?_
               rintro _ w10 ⟨A10, c10, rfl, hr10, hb10⟩
               have HB10 : Hid (Below wr.heap.size wr w10) := Lib.hid ((Below.refl _ _).drew.trans hb10)
               have HS := Lib.hid (dsame_yes A5 A10 m c5 c10 _ w10 (HR5.out.below HB10.out) hr10 (by omega))
               clear hr10 hb10)
            | (go_simp; go_at_call 11; refine HS.out.mono ?_
               rintro _ w11 ⟨rfl, hb11⟩
               have HB11 : Hid (Below wr.heap.size wr w11) := Lib.hid (HB10.out.trans (hb11.mono HB10.out.size))
               obtain ⟨y0, y1, y2, y3, y4, y5, y6, y7⟩ := (HZr.out.below HB11.out hzw).cells
               clear hb11)
            | (go_simp; go_at_call_of 12 Ay; refine (HAY.out _ (by first | exact HB13.out | exact HB11.out)).mono ?_
               rintro _ w12 ⟨A12, c12, rfl, hb12⟩
               have HB12 : Hid (Below wr.heap.size wr w12) := Lib.hid (by first | exact HB13.out.trans (hb12.mono HB13.out.size) | exact HB11.out.trans (hb12.mono HB11.out.size))
               obtain ⟨z0, z1, z2, z3, z4, z5, z6, z7⟩ := (HZr.out.below HB12.out hzw).cells
               clear hb12)
            | (go_simp; go_at_call 16; refine (HA.out _).mono ?_
               rintro _ w13 ⟨rfl, hb13⟩
               have HB13 : Hid (Below wr.heap.size wr w13) := Lib.hid (by first | exact HB12.out.trans (hb13.mono HB12.out.size) | exact HB11.out.trans (hb13.mono HB11.out.size))
               clear hb13))
          all_goals
            go_wp2
            go_ret
            exact ⟨rfl, HBA.out.trans (by first | exact HB13.out.mono HBA.out.size | exact HB12.out.mono HBA.out.size)⟩
end Go.Proofs.Ytdepidemciigkaa

