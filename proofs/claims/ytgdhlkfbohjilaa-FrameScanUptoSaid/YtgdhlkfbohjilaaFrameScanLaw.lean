/-
  The statement FrameScan by its walk, where what stands behind has up to 1048576 bytes.
-/
import Derived.Test.YtgdhlkfbohjilaaFrameAnyLaw
import Derived.Test.YtgdhlkfbohjilaaFrameFew
import Derived.Test.YtgdhlkfbohjilaaStrBytes
import Derived.Test.YtgdhlkfbohjilaaRowsArg
import Derived.BigQuiet
import Derived.Deep.QuietTactic
namespace Go.Proofs.Ytgdhlkfbohjilaa
open Go.RowKit
set_option linter.unusedVariables false

theorem below_drewN' {B : Nat} {a w : World} (h : Below B a w) (n : Nat) : Below B a (w.drewN n) := ⟨h.os, h.tape, h.output, h.size, h.block⟩

theorem info_int : (Try.prog.info? 3).map (fun i => (i.zero, i.size, i.bytes)) = some (some (.int .i64 0), 1, 8) := by kernel_rfl

/-- Where each record ends. -/
def endsAt (rs : List (List Nat)) (k : Nat) : List Int := (List.range k).map fun j => ((flat (rs.take (j + 1))).length : Int)
theorem endsAt_next (rs : List (List Nat)) (k : Nat) : endsAt rs (k + 1) = endsAt rs k ++ [((flat (rs.take (k + 1))).length : Int)] := by
  simp [endsAt, List.range_succ]
theorem endsAt_at (rs : List (List Nat)) (k j : Nat) (hj : j < k) : (endsAt rs k).getD j 0 = ((flat (rs.take (j + 1))).length : Int) := by
  simp [endsAt, List.getD, hj]
theorem flat_le (rs : List (List Nat)) (h : ∀ r ∈ rs, r.length ≤ 500) : (flat rs).length ≤ 506 * rs.length := by
  induction rs with
  | nil => simp [flat_nil]
  | cons r rs ih =>
    rw [flat_cons, List.length_append, fmk_length, List.length_cons]
    have h1 := h r (by simp)
    have h2 := ih (fun x hx => h x (by simp [hx]))
    omega
theorem flat_lt {rs : List (List Nat)} (h : ∀ r ∈ rs, ∀ x ∈ r, x < 256) : ∀ x ∈ flat rs, x < 256 := by
  intro x hx
  obtain ⟨r, hr, hx⟩ := List.mem_flatMap.1 hx
  exact fmk_lt (h r hr) x hx
theorem flat_take_mono (rs : List (List Nat)) {j k : Nat} (h : j ≤ k) : (flat (rs.take j)).length ≤ (flat (rs.take k)).length := by
  have := flat_take_le (rs.take k) j
  rwa [List.take_take, Nat.min_eq_left h] at this

set_option maxRecDepth 100000 in
set_option maxHeartbeats 4000000 in
theorem frameScan_walk (w : World) (a : Option Addr) (len cap : Nat) (h : IsRows .u8 w a len cap) (b : Option Addr) (lb cb : Nat) (zb : List Int) (h2 : IsRow .u8 w b lb cb zb) (hr2 : cb ≤ 1048576)
    (n_ : Int) (hn_ : (Lit.int .u16 n_).wf = true) :
    Calls Try.prog 5 #[.slice a len cap, .slice b lb cb, .int .u16 n_] w fun e w' => e = .returned (.bool true) ∧ Below w.heap.size w w' := by
  obtain ⟨t, rfl, ht⟩ := u16_nat hn_
  obtain ⟨rs0, hrl0, hrd0, hrw0, hnc0, hcm0⟩ := rows_bytes h
  obtain ⟨tail, hrt, htl, htw, hnb, _⟩ := row_bytes h2
  have HR0 := Lib.hid hrd0
  have HRL0 := Lib.hid hrl0
  have HRT := Lib.hid hrt
  have HTW := Lib.hid htw
  have HTL := Lib.hid htl
  -- the rows, cut
  have hm12 := few_len rs0
  have hr5 := few_row rs0
  have hrw := few_lt hrw0
  have hcap0 : len ≤ 9223372036854775807 := by unfold maxLen at hcm0; omega
  obtain ⟨rs, hrs⟩ : ∃ rs, rs = few rs0 := ⟨_, rfl⟩
  rw [← hrs] at hm12 hr5 hrw
  have hfl := flat_le rs hr5
  have HFEW := Lib.hid hrs
  have HR5 := Lib.hid hr5
  have HRW := Lib.hid hrw
  obtain ⟨m, hm⟩ : ∃ m, m = rs.length := ⟨_, rfl⟩
  obtain ⟨L, hL⟩ : ∃ L, L = (flat rs).length := ⟨_, rfl⟩
  rw [← hm] at hm12 hfl
  rw [← hL] at hfl
  have hL6 : L ≤ 6072 := by omega
  have HM := Lib.hid hm
  have HLL := Lib.hid hL
  clear h h2 hrd0 hrl0 hrt htl htw hrw0 hn_ hrs hr5 hrw hm hL hfl
  go_enter Try.func5, Try.ntmps5
  go_wp2_with fail
  refine (awake_any w).mono ?_
  rintro e w1 ⟨rfl, hb⟩
  have HB := Lib.hid hb
  have HR1 := Lib.hid (HR0.out.below hb)
  clear hb
  go_wp2_with fail
  refine (few_any a len cap rs0 w1 HRL0.out HR1.out (by omega)).mono ?_
  rintro e w2 ⟨v, rfl, hown, hb⟩
  rw [← HFEW.out] at hown
  obtain ⟨A2, c2, rfl, h21, h22, hrows⟩ := hown.form
  rw [← HM.out] at h21 ⊢
  have HROWS := Lib.hid hrows
  have HB2 := Lib.hid (HB.out.trans (hb.mono HB.out.size))
  clear hown hb hrows HR1 HB HR0 HRL0 HFEW
  go_wp2
  go_loopw [7, 8, 24] (fun s v i wr => ∃ k : Nat, k ≤ m ∧ i = .int .i64 k ∧ s = .string (strN (flat (rs.take k))) ∧ Own 3 .i64 wr w2.heap.size v k (endsAt rs k) ∧ Below w2.heap.size w2 wr) (fun _ _ i _ => m - (intOf i).toNat)
  case atStart => exact ⟨0, Nat.zero_le _, rfl, rfl, Own.nil, Below.refl _ _⟩
  case round =>
    obtain ⟨k, hk, rfl, rfl, hown, hbel⟩ := hrel
    by_cases hlt : k < m
    · have hlt' : k < rs.length := by rw [← HM.out]; exact hlt
      obtain ⟨ad, B, c, rfl, hcell, h1, h2, hrd⟩ := (HROWS.out.below hbel).at_ hlt'
      have hr16 := HR5.out _ (List.getElem_mem hlt')
      have hrw := HRW.out _ (List.getElem_mem hlt')
      have hft := flat_take rs k hlt'
      have hle := flat_take_le rs k
      have hle2 := flat_take_le rs (k + 1)
      rw [← HLL.out] at hle hle2
      have hen := endsAt_next rs k
      obtain ⟨r, hre⟩ : ∃ r, r = rs[k] := ⟨_, rfl⟩
      rw [← hre] at hcell h1 hrd hr16 hrw hft
      obtain ⟨z, hz⟩ : ∃ z, z = r.length := ⟨_, rfl⟩
      rw [← hz] at hcell h1 hrd hr16
      have hcc : ¬ 9223372036854775807 < (strN (flat (rs.take k))).size + (strN (fmk r)).size := by
        rw [strN_size, strN_size, fmk_length]; omega
      obtain ⟨E, hE⟩ : ∃ E, E = (flat (rs.take (k + 1))).length := ⟨_, rfl⟩
      have hss : (strN (flat (rs.take k)) ++ strN (fmk r)).size = E := by rw [strN_append, ← hft, strN_size, hE]
      rw [← hE] at hen hle2
      obtain ⟨s, hs⟩ : ∃ s, s = flat (rs.take k) := ⟨_, rfl⟩
      rw [← hs] at hcc hft hss ⊢
      have hsz := hbel.size
      have hrow := hown.rowLt
      have HRD := Lib.hid hrd
      have HRWk := Lib.hid hrw
      have HFK := Lib.hid hft
      have HBEL := Lib.hid hbel
      have HOWN := Lib.hid hown
      have HEN := Lib.hid hen
      have HROW := Lib.hid hrow
      clear hrd hrw hft hbel hre hz hle hs hlt' hown hen hE hrow
      go_wp2_with fail
      refine (made_any B z c r wr HRD.out HRWk.out (by omega)).mono ?_
      rintro e w3 ⟨rfl, hb3⟩
      have hz3 := hb3.size
      have HB3 := Lib.hid (HBEL.out.trans (hb3.mono HBEL.out.size))
      have HOWN3 := Lib.hid (HOWN.out.below hb3)
      clear hb3
      go_wp2_with (first
        | (at_builtin
           refine wpList_append_ints _ rfl (.tmp 32) (.tmp 35) 35 rfl .i64 8 w2.heap.size 3 Try.underlying35 info_int _ k _ rfl (HOWN3.out.alloc _) (some ⟨w3.heap.size, 0, none⟩) 1 1 [(E : Int)] rfl (Rd.one _) (by omega) (by omega) (by simp; omega) ?_
           intro v4 w4 ho4 hg4))
      have hb4 : Below w2.heap.size w2 w4 := (HB3.out.alloc (by omega) _).grown hg4 (by simp; omega) HROW.out
      rw [← HEN.out] at ho4
      refine ⟨⟨k + 1, by omega, by go_num, by rw [HFK.out, strN_append], ho4, hb4⟩, ?_⟩
      simp [intOf]
      omega
    · obtain rfl : k = m := by omega
      have htk : rs.take k = rs := List.take_of_length_le (by rw [← HM.out]; omega)
      rw [htk]
      obtain ⟨AE, cE, rfl, hE1, hE2, hrE, hEn⟩ := hown.form
      obtain ⟨fs, hfs⟩ : ∃ fs, fs = flat rs := ⟨_, rfl⟩
      rw [← hfs]
      have hfl : fs.length = L := by rw [hfs, HLL.out]
      have hsz : (strN fs).size = L := by rw [strN_size, hfl]
      have hfw : ∀ x ∈ fs, x < 256 := by rw [hfs]; exact flat_lt HRW.out
      obtain ⟨q, hq⟩ : ∃ q, q = t % (L + 1) := ⟨_, rfl⟩
      have hqL : q ≤ L := by have := Nat.mod_lt t (show 0 < L + 1 by omega); omega
      have hqq : (t : Int) % ((L : Int) + 1) = (q : Int) := by rw [hq]; rfl
      have hsf := fun W => run_strFront W fs q (by omega)
      obtain ⟨gs, hgs⟩ : ∃ gs, gs = fs.take q := ⟨_, rfl⟩
      rw [← hgs] at hsf
      have hgl : gs.length = q := by rw [hgs, List.length_take, hfl]; omega
      have hgw : ∀ x ∈ gs, x < 256 := fun x hx => hfw x (by rw [hgs] at hx; exact List.mem_of_mem_take hx)
      obtain ⟨c3, w3, hcv, hc3, hm3, hz3, hb3, hr3, _⟩ := run_bytes wr gs hgw (by rw [hgl]; simp only [maxLen]; omega)
      rw [hgl] at hcv hc3 hr3
      have HFS := Lib.hid hfs
      have HFL := Lib.hid hfl
      have HFW := Lib.hid hfw
      have HGS := Lib.hid hgs
      have HGW := Lib.hid hgw
      have HRE := Lib.hid (hrE.below hb3)
      have HB3 := Lib.hid (hbel.trans (hb3.mono hbel.size))
      have HR3 := Lib.hid hr3
      unfold maxLen at hm3 hE2
      clear hown hbel htk hEn hfs hfl hfw hq hgs hgl hgw hb3 hz3 hr3 hrE
      go_wp2_with fail
      refine (scan_any _ q c3 gs w3 HR3.out HGW.out hc3 (by omega) (by omega)).mono ?_
      rintro e w4 ⟨ys, v, hsc, rfl, hown, hb4⟩
      obtain ⟨A5, c5, rfl, h51, h52, hrows5⟩ := hown.form
      have hrs16 : ∀ r ∈ rs, r.length ≤ 16384 := fun r hr => by have := HR5.out r hr; omega
      obtain ⟨hy1, hy2, hy3⟩ := Scanned.cut rs hrs16 (k := q) (by rw [← HFS.out, HFL.out]; exact hqL) (by rw [← HFS.out, ← HGS.out]; exact hsc)
      rw [← HM.out] at hy3
      obtain ⟨p, hp⟩ : ∃ p, p = ys.length := ⟨_, rfl⟩
      have hpk : p ≤ k := by
        have h1 := congrArg List.length hy1
        rw [List.length_take, ← HM.out] at h1
        omega
      rw [← hp] at hy1 hy3 h51 ⊢
      obtain ⟨y, hye⟩ : ∃ y, y = (flat ys).length := ⟨_, rfl⟩
      rw [← hye] at hy2 ⊢
      have HRE4 := Lib.hid (HRE.out.below hb4)
      have HB4 := Lib.hid (HB3.out.trans (hb4.mono HB3.out.size))
      have HROWS5 := Lib.hid hrows5
      have HYE := Lib.hid hye
      have HP := Lib.hid hp
      have HY1 := Lib.hid hy1
      have HY3 := Lib.hid hy3
      clear hb4 hsc hown hrows5 hye hp hy1 hy3 hcv h52 HRE HB3 HR3 hsf
      go_wp2
      go_loop [14] (fun i => ∃ j : Nat, j ≤ p ∧ i = .int .i64 j) (fun i => p - (intOf i).toNat)
      case atStart => exact ⟨0, Nat.zero_le _, rfl⟩
      case round =>
        obtain ⟨j, hj, rfl⟩ := hrel
        by_cases hjp : j < p
        · have hjk : j < k := by omega
          obtain ⟨aE, rfl, hcE⟩ := HRE4.out.at_ hjk
          rw [endsAt_at rs k j hjk] at hcE
          have hle : (flat (rs.take (j + 1))).length ≤ q := by
            have h1 := flat_take_mono rs (show j + 1 ≤ p by omega)
            rw [← HY1.out, ← HYE.out] at h1
            omega
          obtain ⟨E, hE⟩ : ∃ E, E = (flat (rs.take (j + 1))).length := ⟨_, rfl⟩
          rw [← hE] at hcE hle
          clear hE
          go_wp2
          go_round
          case rel => exact ⟨j + 1, by omega, by go_num⟩
          case measure => simp [intOf]; omega
        · obtain rfl : j = p := by omega
          have hyn : (flat (rs.take j)).length = y := by rw [← HY1.out, HYE.out]
          have HYN := Lib.hid hyn
          clear hjp hj hyn
          have hways : (k = 0 ∧ j = 0 ∧ y = 0) ∨
              (∃ i aE, j = i + 1 ∧ k = i + 1 ∧ AE = some aE ∧ w4.cell? (aE.add i) = some (.int .i64 (y : Int))) ∨
              (∃ aE E : _, j = 0 ∧ 0 < k ∧ y = 0 ∧ q < E ∧ AE = some aE ∧ w4.cell? (aE.add 0) = some (.int .i64 ((E : Nat) : Int))) ∨
              (∃ i aE E, j = i + 1 ∧ i + 1 < k ∧ q < E ∧ AE = some aE ∧ w4.cell? (aE.add i) = some (.int .i64 (y : Int)) ∧ w4.cell? (aE.add (i + 1)) = some (.int .i64 ((E : Nat) : Int))) := by
            have hcell : ∀ i, i < k → ∃ aE, AE = some aE ∧ w4.cell? (aE.add i) = some (.int .i64 ((flat (rs.take (i + 1))).length : Int)) := by
              intro i hi
              obtain ⟨aE, he, hc⟩ := HRE4.out.at_ hi
              rw [endsAt_at rs k i hi] at hc
              exact ⟨aE, he, hc⟩
            cases j with
            | zero =>
              have hy0 : y = 0 := by rw [← HYN.out]; rfl
              by_cases hk0 : k = 0
              · exact .inl ⟨hk0, rfl, hy0⟩
              · obtain ⟨aE, he, hc⟩ := hcell 0 (by omega)
                exact .inr (.inr (.inl ⟨aE, _, rfl, by omega, hy0, HY3.out (by omega), he, hc⟩))
            | succ i =>
              obtain ⟨aE, he, hc⟩ := hcell i (by omega)
              rw [HYN.out] at hc
              by_cases hik : i + 1 < k
              · obtain ⟨aE', he', hc'⟩ := hcell (i + 1) hik
                obtain rfl : aE = aE' := by rw [he] at he'; injection he'
                exact .inr (.inr (.inr ⟨i, aE, _, rfl, hik, HY3.out hik, he, hc, hc'⟩))
              · exact .inr (.inl ⟨i, aE, rfl, by omega, he, hc⟩)
          clear HY3
          rcases hways with ⟨rfl, rfl, rfl⟩ | ⟨i, aE, rfl, rfl, rfl, hcI⟩ | ⟨aE, E, rfl, hk0, rfl, hqE, rfl, hcI⟩ | ⟨i, aE, E, rfl, hik, hqE, rfl, hcI, hcE⟩
          all_goals
            (first
              | (rw [show aE.add (i + 1) = ⟨aE.block, aE.off + (i + 1), none⟩ from rfl] at hcE)
              | (rw [show aE.add 0 = aE from rfl] at hcI)
              | skip)
            go_wp2
          all_goals
            go_loopw [93] (fun i wr => ∃ j : Nat, j ≤ ys.length ∧ i = .int .i64 j ∧ Below w4.heap.size w4 wr) (fun i _ => ys.length - (intOf i).toNat)
            case atStart => exact ⟨0, Nat.zero_le _, rfl, Below.refl _ _⟩
            case round =>
              obtain ⟨j, hj, rfl, hbel⟩ := hrel
              have hb24 : Below w2.heap.size w2 wr := HB4.out.trans (hbel.mono HB4.out.size)
              have hbw : Below w.heap.size w wr := HB2.out.trans (hb24.mono HB2.out.size)
              by_cases hlt : j < ys.length
              · have hlt2 := hlt
                rw [← HP.out] at hlt2
                first
                | exact absurd hlt2 (Nat.not_lt_zero _)
                | (obtain ⟨ad5, B5, d5, rfl, hc5, hx1, hx2, hrd5⟩ := (HROWS5.out.below hbel).at_ hlt
                   have hjr : j < rs.length := by
                     have h1 := congrArg List.length HY1.out
                     rw [List.length_take] at h1
                     omega
                   obtain ⟨ad2, B2, d2, rfl, hc2, hx3, hx4, hrd2⟩ := (HROWS.out.below hb24).at_ hjr
                   have hjm := hjr
                   rw [← HM.out] at hjm
                   have hyr : ys[j] = rs[j] := by
                     have h1 : ys[j]? = rs[j]? := by
                       conv => lhs; rw [HY1.out]
                       rw [List.getElem?_take, if_pos hlt2]
                     rw [List.getElem?_eq_getElem hlt, List.getElem?_eq_getElem hjr] at h1
                     injection h1
                   rw [hyr] at hc5 hrd5
                   obtain ⟨r, hre⟩ : ∃ r, r = rs[j] := ⟨_, rfl⟩
                   rw [← hre] at hc5 hrd5 hc2 hrd2
                   obtain ⟨z, hz⟩ : ∃ z, z = r.length := ⟨_, rfl⟩
                   rw [← hz] at hc5 hrd5 hc2 hrd2
                   have s5 := fun n => str_of (wr.drewN n) B5 z d5 r (hrd5.drewN n)
                   have s2 := fun n => str_of (wr.drewN n) B2 z d2 r (hrd2.drewN n)
                   have HBEL := Lib.hid hbel
                   clear hx1 hx2 hx3 hx4 hyr hre hz hrd5 hrd2 hbw hb24 hbel
                   clear hjr
                   go_wp2
                   go_quiet (fail)
                   go_wp2
                   go_roundw
                   case rel => exact ⟨j + 1, by omega, by go_num, below_drewN' HBEL.out _⟩
                   case measure => simp [intOf]; omega)
              · have hge : ¬ (j : Nat) < ys.length := hlt
                have hjy : j = ys.length := by omega
                rw [← HP.out] at hjy
                have hstr := str_of wr b lb cb tail (HRT.out.below hbw)
                have hcc : ¬ 9223372036854775807 < (strN fs).size + (strN tail).size := by
                  rw [strN_size, strN_size, HFL.out, HTL.out]; omega
                have hall : ∀ x ∈ fs ++ tail, x < 256 := fun x hx => by
                  rcases List.mem_append.1 hx with hx | hx
                  · exact HFW.out x hx
                  · exact HTW.out x hx
                have hal : (fs ++ tail).length = L + lb := by rw [List.length_append, HFL.out, HTL.out]
                obtain ⟨c6, w6, hcv, hc6, hm6, hz6, hb6, hr6, hfz6⟩ := run_bytes wr (fs ++ tail) hall (by rw [hal]; simp only [maxLen]; omega)
                rw [← strN_append] at hcv
                rw [hal] at hcv hc6 hr6
                have HB6 := Lib.hid (hbw.trans (hb6.mono hbw.size))
                have HR6 := Lib.hid hr6
                have HALL := Lib.hid hall
                unfold maxLen at hm6
                clear hall hal hz6 hb6 hr6 hfz6 hb24 hbw hbel hge hlt
                subst hjy
                go_wp2_with fail
                refine (scan_any _ (L + lb) c6 (fs ++ tail) w6 HR6.out HALL.out hc6 (by omega) (by omega)).mono ?_
                rintro e w7 ⟨zs, v7, hsc, rfl, hown, hb7⟩
                have hrs16 : ∀ r ∈ rs, r.length ≤ 16384 := fun r hr => by have := HR5.out r hr; omega
                rw [HFS.out] at hsc
                obtain ⟨zs', rfl⟩ := Scanned.all rs hrs16 hsc
                obtain ⟨A7, c7, rfl, h71, h72, hrows7⟩ := hown.form
                have hl1 : rs.length ≤ (rs ++ zs').length := by rw [List.length_append]; omega
                have hl2 : L ≤ (flat (rs ++ zs')).length := by rw [flat_append, List.length_append, HLL.out]; omega
                rw [← HM.out] at hl1
                obtain ⟨l1, h1⟩ : ∃ l1, l1 = (rs ++ zs').length := ⟨_, rfl⟩
                obtain ⟨l2, h2⟩ : ∃ l2, l2 = (flat (rs ++ zs')).length := ⟨_, rfl⟩
                rw [← h1] at hl1 ⊢
                rw [← h2] at hl2 ⊢
                have HB7 := Lib.hid (HB6.out.trans (hb7.mono HB6.out.size))
                clear hsc hown hb7 h71 h72 hrows7 h1 h2 hcv hstr hcc
                go_wp2
                go_ret
                exact ⟨rfl, HB7.out⟩
end Go.Proofs.Ytgdhlkfbohjilaa
