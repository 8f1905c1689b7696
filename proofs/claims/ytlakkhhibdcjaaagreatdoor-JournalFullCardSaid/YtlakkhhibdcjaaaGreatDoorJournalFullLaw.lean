/-
  JournalFull walked: without room nothing is laid, and nothing is lost.
-/
import Derived.Test.YtlakkhhibdcjaaaGreatDoorJourStrs
import Derived.Test.YtlakkhhibdcjaaaGreatDoorFrame
import Derived.Test.YtlakkhhibdcjaaaGreatDoorLow
import Derived.Test.YtlakkhhibdcjaaaGreatDoorNumber
import Derived.Deep.RegionWith
import Derived.Deep.CutRange
namespace Go.Proofs.YtlakkhhibdcjaaaGreatDoor
open Go Go.RowKit Go.Maps
set_option linter.unusedVariables false

set_option maxRecDepth 100000 in
set_option maxHeartbeats 8000000 in
theorem journalFull_walk (w : World) (room_ : Int) (hroom_ : (Lit.int .u8 room_).wf = true) (a : Option Addr) (la ca : Nat) (ha : IsRows .u8 w a la ca) (b : Option Addr) (lb cb : Nat) (zb : List Int) (hb : IsRow .u8 w b lb cb zb) (hh : HasErr w) :
    Calls Tryz.prog 4 #[.int .u8 room_, .slice a la ca, .slice b lb cb] w fun e w' => e = .returned (.bool true) ∧ Below w.heap.size w w' := by
  obtain ⟨room, rfl, hroom⟩ := u8_nat hroom_
  obtain ⟨rs0, hrl0, hrd0, hrw0, hnc0, hcm0⟩ := rows_bytes ha
  obtain ⟨ys0, hrb0, hyl0, hyw0, hnb, hcb⟩ := row_bytes hb
  obtain ⟨m, hm⟩ : ∃ m, m = min lb 500 := ⟨_, rfl⟩
  have hmin := min2_ok (P := Tryz.prog) lb 500 m (lb : Int) 500 rfl rfl hm
  have hf1 := fun W => run_front W b lb cb m (by omega)
  have hrb := hrb0.front (j := m) (by omega)
  rw [ints_take] at hrb
  obtain ⟨ys, hys⟩ : ∃ ys, ys = ys0.take m := ⟨_, rfl⟩
  rw [← hys] at hrb
  have hyw : ∀ x ∈ ys, x < 256 := fun x hx => hyw0 x (by rw [hys] at hx; exact List.mem_of_mem_take hx)
  have hyl : ys.length = m := by rw [hys, List.length_take]; omega
  have hm5 : m ≤ 500 := by omega
  have hmc : m ≤ cb := by omega
  have hr5 := few_row rs0
  have hrw := few_lt hrw0
  have hm12 := few_len rs0
  have hla : la ≤ 9223372036854775807 := by unfold maxLen at hcm0; omega
  obtain ⟨rs, hrs⟩ : ∃ rs, rs = few rs0 := ⟨_, rfl⟩
  rw [← hrs] at hm12 hr5 hrw
  obtain ⟨n, hn⟩ : ∃ n, n = rs.length := ⟨_, rfl⟩
  rw [← hn] at hm12
  have HFEW := Lib.hid hrs
  have HR5 := Lib.hid hr5
  have HRW := Lib.hid hrw
  have HN := Lib.hid hn
  have HR0 := Lib.hid hrd0
  have HRL0 := Lib.hid hrl0
  have HRB := Lib.hid hrb
  have HYW := Lib.hid hyw
  have HYL := Lib.hid hyl
  have HH := Lib.hid hh
  have HCB := Lib.hid hcb
  unfold maxLen at hcb
  clear ha hb hrd0 hrl0 hrw0 hrb0 hyw0 hyl0 hrb hyw hyl hh hys hm hroom_ hrs hr5 hrw hn
  go_enter Tryz.func4, Tryz.ntmps4
  go_wp2_with fail
  refine (awake_ok w).mono ?_
  rintro e w1 ⟨rfl, hb1⟩
  have HB1 := Lib.hid hb1
  have hz1 := hb1.size
  have HFA := Lib.hid (show ∀ W, Below w1.heap.size w1 W → Calls Tryz.prog 20 #[.slice a la ca] W (FewRes W rs0) from fun W hW => few_any a la ca rs0 W HRL0.out ((HR0.out.below hb1).below hW) hla)
  clear hb1
  go_upto_region 3 with fail
  go_cut [1, 2] from 20 to 26 (fun s1 s2 wx => ∃ FA fc, s1 = .slice FA n fc ∧ s2 = .slice b m cb ∧ RdRows wx FA rs ∧ Below w.heap.size w wx)
  case first =>
    go_region_with (first
      | (go_at_call 20
         refine (HFA.out _ (by first | exact (Below.refl _ _).drew | exact ((Below.refl _ _).drew).drew | exact (((Below.refl _ _).drew).drew).drew | exact ((((Below.refl _ _).drew).drew).drew).drew)).mono ?_
         rintro e wq ⟨v, rfl, hown, hbq⟩
         rw [← HFEW.out] at hown
         obtain ⟨FA, fc, hfv, _, _, hfrd⟩ := hown.form
         subst hfv
         rw [← HN.out]
         have hbq1 : Below w1.heap.size w1 wq := ⟨hbq.os, hbq.tape, hbq.output, hbq.size, hbq.block⟩
         have HBQ := Lib.hid (HB1.out.trans (hbq1.mono hz1))
         have HFR := Lib.hid hfrd
         clear hown hbq hbq1 hfrd))
    all_goals
      go_wp2_with fail
      go_meet
      first
        | exact ⟨FA, fc, rfl, rfl, HFR.out, HBQ.out⟩
        | exact ⟨FA, fc, rfl, rfl, HFR.out.drew, HBQ.out.drew⟩
        | exact ⟨FA, fc, rfl, rfl, HFR.out.drew.drew, HBQ.out.drew.drew⟩
  case rest =>
  obtain ⟨FA, fc, rfl, rfl, hfrd, hbq⟩ := hcut
  obtain ⟨wq, hwq⟩ : ∃ wq, wq = wc := ⟨_, rfl⟩
  rw [← hwq] at hfrd hbq ⊢
  have HBQ := Lib.hid hbq
  have HFR := Lib.hid hfrd
  have hzq := hbq.size
  clear hfrd hbq hwq hmin hf1
  go_wp2_with fail
  refine (of_q (room : Int) (room : Int) (room : Int) wq (by omega) (by omega)).mono ?_
  rintro e w2 ⟨rfl, hd2, hb2⟩
  have hz2 := hb2.size
  have HD2 := Lib.hid hd2
  have HB2 := Lib.hid hb2
  clear hd2 hb2
  go_wp2_with fail
  refine (open_new HD2.out (by omega) hz2).mono ?_
  rintro e w3 ⟨jb, S3, T3, rfl, hj3, hf3, _, _⟩
  have hb3 : Below wq.heap.size wq w3 := HB2.out.trans (hf3.below (fun i hi => (HD2.out.low i hi).1) hz2)
  have HJ3 := Lib.hid hj3
  have HB3 := Lib.hid hb3
  clear hj3 hf3 hb3
  go_wp2
  go_loopw [10, 11, 12, 43] (fun v bstr tv i wr => ∃ (k t : Nat) (bb : List Nat) (qs : List (List Nat)) (o : Option (List (List Nat))) (S T : Nat → Prop), k ≤ n ∧ t ≤ k ∧ i = .int .i64 (k : Int) ∧ bstr = .string (strN bb) ∧ tv = .int .i64 (t : Int) ∧
      Jn wr S T wq.heap.size jb wq.heap.size (room : Int) t bb qs o ∧ OwnStrs wr wq.heap.size v qs ∧ (∀ g, v.ownBlock = some g → ¬ joined S T g) ∧ Below wq.heap.size wq wr) (fun _ _ _ i _ => n - (intOf i).toNat)
  case atStart => exact ⟨0, 0, [], [], none, S3, T3, Nat.zero_le _, Nat.le_refl _, rfl, rfl, rfl, HJ3.out, OwnStrs.nil, fun g h => (by cases h), HB3.out⟩
  case round =>
    obtain ⟨k, t, bb, qs, o, S, T, hk, htk, rfl, rfl, rfl, hj, hst, hout, hbel⟩ := hrel
    by_cases hlt : k < n
    · have hlt' : k < rs.length := by rw [← HN.out]; exact hlt
      obtain ⟨ad, B, c, rfl, hcell0, h1, h2, hrd0⟩ := HFR.out.at_ hlt'
      have hcell : wr.cell? (ad.add k) = some (.slice B rs[k].length c) := by rw [hbel.cell (World.block_lt_of_cell? wq _ hcell0)]; exact hcell0
      obtain ⟨r, hre⟩ : ∃ r, r = rs[k] := ⟨_, rfl⟩
      have hrm : ∀ x ∈ r, x < 256 := HRW.out r (by rw [hre]; exact List.getElem_mem _)
      have hrz : r.length ≤ 500 := HR5.out r (by rw [hre]; exact List.getElem_mem _)
      rw [← hre] at hcell h1 hrd0
      obtain ⟨z, hz⟩ : ∃ z, z = r.length := ⟨_, rfl⟩
      rw [← hz] at hcell h1 hrz hrd0
      have hzr := hbel.size
      have hfl : (flat [r]).length = 6 + z := by rw [flat_one, fmk_length, hz]
      have hrows : RdRowsR (fun i => i < wq.heap.size ∨ i = wr.heap.size) (wr.alloc (.cells #[.slice B z c] 34)) (some ⟨wr.heap.size, 0, none⟩) [r] :=
        RdRowsR.made (w := wr) (ns := [r]) (ty := 34) (fr := (0, 0)) [.slice B z c] (fun j u q hu hq => by
          cases j with
          | zero =>
            simp at hu hq
            subst hu hq
            exact ⟨RowAt.of_rd (hrd0.below hbel) h1 h2, hrd0.to.wide fun i hi => .inl hi⟩
          | succ j => simp at hu) rfl (.inr rfl)
      have hRo : ∀ i, (i < wq.heap.size ∨ i = wr.heap.size) → i < (wr.alloc (.cells #[.slice B z c] 34)).heap.size ∧ ¬ joined S T i := fun i hi => ⟨by simp; omega, fun hjj => by have := hj.jd.low i hjj; omega⟩
      obtain ⟨RA, rc, hrv, hrs⟩ := hst.form
      obtain ⟨rl, hrl⟩ : ∃ rl, rl = qs.length := ⟨_, rfl⟩
      rw [← hrl] at hrv
      have hql := hj.recLen
      subst hrv
      have HJ := Lib.hid hj
      have HST := Lib.hid hst
      have HOUT := Lib.hid hout
      have HBEL := Lib.hid hbel
      have HRM := Lib.hid hrm
      have HZ := Lib.hid hz
      have HRD := Lib.hid hrd0
      have HFL := Lib.hid hfl
      have HROWS := Lib.hid hrows
      have HRO := Lib.hid hRo
      have HRLE := Lib.hid hrl
      rw [← hrl] at hql
      have HLT1 := Lib.hid (show ∀ q ∈ [r], ∀ x ∈ q, x < 256 by intro q hq; simp at hq; subst hq; exact hrm)
      have HSH1 := Lib.hid (show ∀ q ∈ [r], q.length ≤ 16384 by intro q hq; simp at hq; subst hq; omega)
      have hmeas : n - (k + 1) < n - k := by omega
      clear hj hst hout hbel hrm hz hrd0 hfl hrows hRo hrl hcell0 hre hlt' h1 h2 hrs
      by_cases hfit : (ptotal (jf t bb o) : Int) + (flat [r]).length ≤ (room : Int)
      · have HFIT := Lib.hid hfit
        clear hfit
        go_wp2_with fail
        refine (append_calm (HJ.out.alloc _) (some ⟨wr.heap.size, 0, none⟩) 1 1 (ns := [r]) rfl HROWS.out HRO.out HLT1.out (by omega) HSH1.out HFIT.out).mono ?_
        rintro e w4 ⟨rfl, S4, T4, hj4, hf4, hw4⟩
        have hst4 := (HST.out.alloc (.cells #[.slice B z c] 34)).fr hf4 HOUT.out
        have hout4 := out_wide (v := .slice RA rl rc) HOUT.out (fun g hg => by have := (HST.out.lt g hg).2; simp; omega) hw4
        have hb4 : Below wq.heap.size wq w4 := (HBEL.out.alloc hzr _).trans (hf4.below (fun i hi => (HJ.out.jd.low i hi).1) (by simp; omega))
        have d4 := str_of w4 B z c r (HRD.out.below hb4)
        have HJ4 := Lib.hid hj4
        have HST4 := Lib.hid hst4
        have HOUT4 := Lib.hid hout4
        have HB4 := Lib.hid hb4
        have hz4 := hb4.size
        clear hj4 hf4 hw4 hst4 hout4 hb4
        go_wp2_with fail
        refine (number_nil w4).mono ?_
        rintro e w5 ⟨rfl, hb5⟩
        have d5 := str_of w5 B z c r ((HRD.out.below HB4.out).below hb5)
        have HJ5 := Lib.hid (HJ4.out.below hb5)
        have HST5 := Lib.hid (show w5.ownsRow wq.heap.size 9 1 (.slice RA rl rc) rl (qs.map fun r => Value.string (strN r)) by have h := HST4.out.below hb5; unfold OwnStrs at h; rw [← HRLE.out] at h; exact h)
        have hz5 : wq.heap.size ≤ w5.heap.size := Nat.le_trans hz4 hb5.size
        have HB5 := Lib.hid (HB4.out.trans (hb5.mono hz4))
        clear hb5 d4
        go_wp2_with (first
          | (at_builtin
             refine wpList_append_one _ rfl (.tmp 55) (.tmp 58) 32 rfl 16 wq.heap.size 9 (.string ⟨#[]⟩) Tryz.underlying32 info_str rfl (.slice RA rl rc) rl _ rfl (World.ownsRow.alloc HST5.out _) ⟨w5.heap.size, 0, none⟩ 1 (.string (strN r)) rfl (by simp) rfl (by omega) (by omega) (by simp; omega) (by simp only [maxLen]; omega) ?_
             intro vE wE hoE hgE)
          | fail)
        rw [HRLE.out] at hoE
        have hjE := (HJ5.out.alloc (.cells #[.string (strN r)] 9)).grew hgE HOUT4.out
        have houtE := hgE.out HOUT4.out (fun i hi => by have := (HJ5.out.jd.low i hi).2; simp; omega)
        have hbE : Below wq.heap.size wq wE := hgE.below (HB5.out.alloc hz5 _) (by simp; omega) (fun g hg => (HST.out.lt g hg).1)
        have hstE := OwnStrs.push (qs := qs) (r := r) hoE
        obtain ⟨EA, ec, heq, hrsE⟩ := hstE.form
        obtain ⟨el, hel⟩ : ∃ el, el = (qs ++ [r]).length := ⟨_, rfl⟩
        rw [← hel] at heq
        subst heq
        have HJE := Lib.hid hjE
        have HSE := Lib.hid hstE
        have HOE := Lib.hid houtE
        have HBE := Lib.hid hbE
        have HRSE := Lib.hid hrsE
        have HEL := Lib.hid hel
        clear hoE hgE hjE houtE hbE hstE hrsE hel d5
        have hzE := HBE.out.size
        have hqsE := HJE.out.recLen
        rw [← HEL.out] at hqsE
        have hltE := HJE.out.jd.jat.lt
        go_wp2_with fail
        refine (open_calm HJE.out.jd.disk HJE.out.recs HJE.out.zero HJE.out.small HJE.out.snap HJE.out.short HJE.out.fits HJE.out.room_ HJE.out.base_).mono ?_
        rintro e w7 ⟨xb, S7, T7, rfl, hx7, hf7, hw7, hT7⟩
        have hj7 := HJE.out.beside hx7 hf7 hw7
        have hst7 := HSE.out.fr hf7 (fun g hg hS => HOE.out g hg (.inl hS))
        have hout7 : ∀ g, (Value.slice EA el ec).ownBlock = some g → ¬ joined S7 T4 g := fun g hg hu => hu.elim (fun h => (hw7 g h).elim (fun h' => HOE.out g hg (.inl h')) (fun h' => by have := (HSE.out.lt g hg).2; omega)) (fun h => HOE.out g hg (.inr h))
        have hb7 : Below wq.heap.size wq w7 := HBE.out.trans (hf7.below (fun i hi => (HJE.out.jd.disk.low i hi).1) HJE.out.base_)
        obtain ⟨A7, c7, heq7, hrs7⟩ := hst7.form
        rw [← HEL.out] at heq7
        injection heq7 with e71 e72 e73
        subst e71 e73
        have HX7 := Lib.hid hx7
        have HJ7 := Lib.hid hj7
        have HS7 := Lib.hid hst7
        have HO7 := Lib.hid hout7
        have HB7 := Lib.hid hb7
        have HSHX := Lib.hid (shows_any hx7.jd.jat bb hltE.1 EA el ec (qs ++ [r]) HEL.out.symm hrs7 hltE.2 (by omega) ((t : Int)) true (by simp))
        have hz7 := hb7.size
        clear hx7 hf7 hw7 hT7 hj7 hst7 hout7 hb7
        go_wp2_with fail
        refine HSHX.out.mono ?_
        rintro e w8 ⟨rfl, hb8⟩
        have HJ8 := Lib.hid (HJ7.out.below hb8)
        have HS8 := Lib.hid (HS7.out.below hb8)
        have HB8 := Lib.hid (HB7.out.trans (hb8.mono hz7))
        have HSHJ := Lib.hid (shows_any (HJ7.out.below hb8).jd.jat bb hltE.1 EA el ec (qs ++ [r]) HEL.out.symm (hrs7.below hb8) hltE.2 (by omega) ((t : Int)) true (by simp))
        have hz8 : wq.heap.size ≤ w8.heap.size := Nat.le_trans hz7 hb8.size
        clear hb8 hrs7
        go_wp2_with fail
        refine HSHJ.out.mono ?_
        rintro e w9 ⟨rfl, hb9⟩
        have HJ9 := Lib.hid (HJ8.out.below hb9)
        have HS9 := Lib.hid (HS8.out.below hb9)
        have HB9 := Lib.hid (HB8.out.trans (hb9.mono hz8))
        have hz9 : wq.heap.size ≤ w9.heap.size := Nat.le_trans hz8 hb9.size
        clear hb9
        obtain ⟨u9, hu9⟩ : ∃ u9, ptotal (jf (t) bb (some (qs ++ [r]))) = u9 := ⟨_, rfl⟩
        have hfit9 := HJ9.out.fits
        rw [hu9] at hfit9
        have hu9n : ¬ ((room : Int) < (u9 : Int)) := by omega
        have HU9 := Lib.hid (used_q HJ9.out.jd.disk (by rw [hu9]; omega) hu9)
        clear hu9
        go_wp2_with fail
        refine HU9.out.mono ?_
        rintro e w10 ⟨rfl, hb10⟩
        have HJ10 := Lib.hid (HJ9.out.below hb10)
        have HS10 := Lib.hid (HS9.out.below hb10)
        have HB10 := Lib.hid (HB9.out.trans (hb10.mono hz9))
        clear hb10
        go_wp2
        go_roundw
        case rel => exact ⟨k + 1, (t), bb, (qs ++ [r]), (some (qs ++ [r])), S7, T4, by omega, by omega, by go_num, rfl, rfl, HJ10.out, HS10.out, HO7.out, HB10.out⟩
        case measure => simp [intOf]; omega
      · have HFIT := Lib.hid (show (room : Int) < (ptotal (jf t bb o) : Int) + (flat [r]).length by omega)
        clear hfit
        go_wp2_with fail
        refine (append_full_ (HJ.out.alloc _) (some ⟨wr.heap.size, 0, none⟩) 1 1 (ns := [r]) rfl HROWS.out.rd HLT1.out (by omega) (by rw [HFL.out]; omega) HSH1.out HFIT.out).mono ?_
        rintro e w4 ⟨rfl, hb4⟩
        have hst4 := (HST.out.alloc (.cells #[.slice B z c] 34)).below hb4
        have hb4' : Below wq.heap.size wq w4 := (HBEL.out.alloc hzr _).trans (hb4.mono (by simp; omega))
        have HJ4 := Lib.hid ((HJ.out.alloc (.cells #[.slice B z c] 34)).below hb4)
        have HST4 := Lib.hid hst4
        have HB4 := Lib.hid hb4'
        have hz4 := hb4'.size
        clear hb4 hst4 hb4'
        go_wp2_with fail
        refine (number_err 8 w4 (HH.out.below (HBQ.out.trans (HB4.out.mono hzq)))).mono ?_
        rintro e w5 ⟨rfl, hb5⟩
        have HJ5 := Lib.hid (HJ4.out.below hb5)
        have HST5 := Lib.hid (HST4.out.below hb5)
        have hz5 : wq.heap.size ≤ w5.heap.size := Nat.le_trans hz4 hb5.size
        have HB5 := Lib.hid (HB4.out.trans (hb5.mono hz4))
        clear hb5
        have hcase : z = 0 ∨ (0 < z ∧ 3 ≤ z) ∨ (0 < z ∧ z < 3) := by omega
        rcases hcase with hc0 | ⟨hc1, hc3⟩ | ⟨hc1, hc3⟩
        · subst hc0
          obtain ⟨wE, hwE⟩ : ∃ wE, wE = w5 := ⟨_, rfl⟩
          have hrsE := (HST5.out.form)
          obtain ⟨EA, ec, heq, hrsE⟩ := hrsE
          rw [← HRLE.out] at heq
          obtain ⟨el, hel⟩ : ∃ el, el = rl := ⟨_, rfl⟩
          injection heq with e1 e2 e3
          subst e1 e3
          have HJE := Lib.hid (show Jn wE S T wq.heap.size jb wq.heap.size (room : Int) t bb qs o by rw [hwE]; exact HJ5.out)
          have HSE := Lib.hid (show OwnStrs wE wq.heap.size (.slice RA el rc) qs by rw [hwE, hel]; exact HST5.out)
          have HOE := Lib.hid (show ∀ g, (Value.slice RA el rc).ownBlock = some g → ¬ joined S T g by rw [hel]; exact HOUT.out)
          have HBE := Lib.hid (show Below wq.heap.size wq wE by rw [hwE]; exact HB5.out)
          have HRSE := Lib.hid (show RdStrs wE RA qs by rw [hwE]; exact hrsE)
          have HEL := Lib.hid (show el = qs.length by rw [hel]; exact HRLE.out)
          rw [← hwE, ← hel]
          clear hwE hel hrsE
          have hzE := HBE.out.size
          have hqsE := HJE.out.recLen
          rw [← HEL.out] at hqsE
          have hltE := HJE.out.jd.jat.lt
          go_wp2_with fail
          refine (open_calm HJE.out.jd.disk HJE.out.recs HJE.out.zero HJE.out.small HJE.out.snap HJE.out.short HJE.out.fits HJE.out.room_ HJE.out.base_).mono ?_
          rintro e w7 ⟨xb, S7, T7, rfl, hx7, hf7, hw7, hT7⟩
          have hj7 := HJE.out.beside hx7 hf7 hw7
          have hst7 := HSE.out.fr hf7 (fun g hg hS => HOE.out g hg (.inl hS))
          have hout7 : ∀ g, (Value.slice RA el rc).ownBlock = some g → ¬ joined S7 T g := fun g hg hu => hu.elim (fun h => (hw7 g h).elim (fun h' => HOE.out g hg (.inl h')) (fun h' => by have := (HSE.out.lt g hg).2; omega)) (fun h => HOE.out g hg (.inr h))
          have hb7 : Below wq.heap.size wq w7 := HBE.out.trans (hf7.below (fun i hi => (HJE.out.jd.disk.low i hi).1) HJE.out.base_)
          obtain ⟨A7, c7, heq7, hrs7⟩ := hst7.form
          rw [← HEL.out] at heq7
          injection heq7 with e71 e72 e73
          subst e71 e73
          have HX7 := Lib.hid hx7
          have HJ7 := Lib.hid hj7
          have HS7 := Lib.hid hst7
          have HO7 := Lib.hid hout7
          have HB7 := Lib.hid hb7
          have HSHX := Lib.hid (shows_any hx7.jd.jat bb hltE.1 RA el rc (qs) HEL.out.symm hrs7 hltE.2 (by omega) ((t : Int)) true (by simp))
          have hz7 := hb7.size
          clear hx7 hf7 hw7 hT7 hj7 hst7 hout7 hb7
          go_wp2_with fail
          refine HSHX.out.mono ?_
          rintro e w8 ⟨rfl, hb8⟩
          have HJ8 := Lib.hid (HJ7.out.below hb8)
          have HS8 := Lib.hid (HS7.out.below hb8)
          have HB8 := Lib.hid (HB7.out.trans (hb8.mono hz7))
          have HSHJ := Lib.hid (shows_any (HJ7.out.below hb8).jd.jat bb hltE.1 RA el rc (qs) HEL.out.symm (hrs7.below hb8) hltE.2 (by omega) ((t : Int)) true (by simp))
          have hz8 : wq.heap.size ≤ w8.heap.size := Nat.le_trans hz7 hb8.size
          clear hb8 hrs7
          go_wp2_with fail
          refine HSHJ.out.mono ?_
          rintro e w9 ⟨rfl, hb9⟩
          have HJ9 := Lib.hid (HJ8.out.below hb9)
          have HS9 := Lib.hid (HS8.out.below hb9)
          have HB9 := Lib.hid (HB8.out.trans (hb9.mono hz8))
          have hz9 : wq.heap.size ≤ w9.heap.size := Nat.le_trans hz8 hb9.size
          clear hb9
          obtain ⟨u9, hu9⟩ : ∃ u9, ptotal (jf (t) bb (o)) = u9 := ⟨_, rfl⟩
          have hfit9 := HJ9.out.fits
          rw [hu9] at hfit9
          have hu9n : ¬ ((room : Int) < (u9 : Int)) := by omega
          have HU9 := Lib.hid (used_q HJ9.out.jd.disk (by rw [hu9]; omega) hu9)
          clear hu9
          go_wp2_with fail
          refine HU9.out.mono ?_
          rintro e w10 ⟨rfl, hb10⟩
          have HJ10 := Lib.hid (HJ9.out.below hb10)
          have HS10 := Lib.hid (HS9.out.below hb10)
          have HB10 := Lib.hid (HB9.out.trans (hb10.mono hz9))
          clear hb10
          go_wp2
          go_roundw
          case rel => exact ⟨k + 1, (t), bb, (qs), (o), S7, T, by omega, by omega, by go_num, rfl, rfl, HJ10.out, HS10.out, HO7.out, HB10.out⟩
          case measure => simp [intOf]; omega
        · have t1 : ¬ ((z : Int) < 3) := by omega
          have t2 : (0 : Int) < (z : Int) := by omega
          obtain ⟨wE, hwE⟩ : ∃ wE, wE = w5 := ⟨_, rfl⟩
          have hrsE := (HST5.out.form)
          obtain ⟨EA, ec, heq, hrsE⟩ := hrsE
          rw [← HRLE.out] at heq
          obtain ⟨el, hel⟩ : ∃ el, el = rl := ⟨_, rfl⟩
          injection heq with e1 e2 e3
          subst e1 e3
          have HJE := Lib.hid (show Jn wE S T wq.heap.size jb wq.heap.size (room : Int) t bb qs o by rw [hwE]; exact HJ5.out)
          have HSE := Lib.hid (show OwnStrs wE wq.heap.size (.slice RA el rc) qs by rw [hwE, hel]; exact HST5.out)
          have HOE := Lib.hid (show ∀ g, (Value.slice RA el rc).ownBlock = some g → ¬ joined S T g by rw [hel]; exact HOUT.out)
          have HBE := Lib.hid (show Below wq.heap.size wq wE by rw [hwE]; exact HB5.out)
          have HRSE := Lib.hid (show RdStrs wE RA qs by rw [hwE]; exact hrsE)
          have HEL := Lib.hid (show el = qs.length by rw [hel]; exact HRLE.out)
          rw [← hwE, ← hel]
          clear hwE hel hrsE
          have hzE := HBE.out.size
          have hqsE := HJE.out.recLen
          rw [← HEL.out] at hqsE
          have hltE := HJE.out.jd.jat.lt
          go_wp2_with fail
          refine (open_calm HJE.out.jd.disk HJE.out.recs HJE.out.zero HJE.out.small HJE.out.snap HJE.out.short HJE.out.fits HJE.out.room_ HJE.out.base_).mono ?_
          rintro e w7 ⟨xb, S7, T7, rfl, hx7, hf7, hw7, hT7⟩
          have hj7 := HJE.out.beside hx7 hf7 hw7
          have hst7 := HSE.out.fr hf7 (fun g hg hS => HOE.out g hg (.inl hS))
          have hout7 : ∀ g, (Value.slice RA el rc).ownBlock = some g → ¬ joined S7 T g := fun g hg hu => hu.elim (fun h => (hw7 g h).elim (fun h' => HOE.out g hg (.inl h')) (fun h' => by have := (HSE.out.lt g hg).2; omega)) (fun h => HOE.out g hg (.inr h))
          have hb7 : Below wq.heap.size wq w7 := HBE.out.trans (hf7.below (fun i hi => (HJE.out.jd.disk.low i hi).1) HJE.out.base_)
          obtain ⟨A7, c7, heq7, hrs7⟩ := hst7.form
          rw [← HEL.out] at heq7
          injection heq7 with e71 e72 e73
          subst e71 e73
          have HX7 := Lib.hid hx7
          have HJ7 := Lib.hid hj7
          have HS7 := Lib.hid hst7
          have HO7 := Lib.hid hout7
          have HB7 := Lib.hid hb7
          have HSHX := Lib.hid (shows_any hx7.jd.jat bb hltE.1 RA el rc (qs) HEL.out.symm hrs7 hltE.2 (by omega) ((t : Int)) true (by simp))
          have hz7 := hb7.size
          clear hx7 hf7 hw7 hT7 hj7 hst7 hout7 hb7
          go_wp2_with fail
          refine HSHX.out.mono ?_
          rintro e w8 ⟨rfl, hb8⟩
          have HJ8 := Lib.hid (HJ7.out.below hb8)
          have HS8 := Lib.hid (HS7.out.below hb8)
          have HB8 := Lib.hid (HB7.out.trans (hb8.mono hz7))
          have HSHJ := Lib.hid (shows_any (HJ7.out.below hb8).jd.jat bb hltE.1 RA el rc (qs) HEL.out.symm (hrs7.below hb8) hltE.2 (by omega) ((t : Int)) true (by simp))
          have hz8 : wq.heap.size ≤ w8.heap.size := Nat.le_trans hz7 hb8.size
          clear hb8 hrs7
          go_wp2_with fail
          refine HSHJ.out.mono ?_
          rintro e w9 ⟨rfl, hb9⟩
          have HJ9 := Lib.hid (HJ8.out.below hb9)
          have HS9 := Lib.hid (HS8.out.below hb9)
          have HB9 := Lib.hid (HB8.out.trans (hb9.mono hz8))
          have hz9 : wq.heap.size ≤ w9.heap.size := Nat.le_trans hz8 hb9.size
          clear hb9
          obtain ⟨u9, hu9⟩ : ∃ u9, ptotal (jf (t) bb (o)) = u9 := ⟨_, rfl⟩
          have hfit9 := HJ9.out.fits
          rw [hu9] at hfit9
          have hu9n : ¬ ((room : Int) < (u9 : Int)) := by omega
          have HU9 := Lib.hid (used_q HJ9.out.jd.disk (by rw [hu9]; omega) hu9)
          clear hu9
          go_wp2_with fail
          refine HU9.out.mono ?_
          rintro e w10 ⟨rfl, hb10⟩
          have HJ10 := Lib.hid (HJ9.out.below hb10)
          have HS10 := Lib.hid (HS9.out.below hb10)
          have HB10 := Lib.hid (HB9.out.trans (hb10.mono hz9))
          clear hb10
          go_wp2
          go_roundw
          case rel => exact ⟨k + 1, (t), bb, (qs), (o), S7, T, by omega, by omega, by go_num, rfl, rfl, HJ10.out, HS10.out, HO7.out, HB10.out⟩
          case measure => simp [intOf]; omega
        · have t1 : (z : Int) < 3 := by omega
          have t2 : (0 : Int) < (z : Int) := by omega
          have hsl := snapRec_len ((t : Int) + 1) ys (by omega) (by omega)
          rw [HYL.out] at hsl
          have hyR : RowTo (fun i => i < w.heap.size) (.slice b m cb) := HRB.out.to
          have hr5 : Rd .u8 w5 b m (ints ys) := HRB.out.below (HBQ.out.trans (HB5.out.mono hzq))
          have HRY5 := Lib.hid hr5
          have HYR := Lib.hid hyR
          clear hyR hr5
          by_cases hfs : (ptotal (jf t bb o) : Int) + (6 + (snapRec ((t : Int) + 1) ys).length) ≤ (room : Int)
          · have HFS := Lib.hid hfs
            clear hfs
            go_wp2_with fail
            refine (save_calm HJ5.out (by omega) b m cb HRY5.out HYR.out (fun i hi => ⟨by omega, fun hjj => by have := (HJ5.out.jd.low i hjj).1; omega⟩) HYW.out (by omega) (by omega) HFS.out).mono ?_
            rintro e wE ⟨rfl, SE, TE, hjE, hfE, hwE⟩
            have hbE : Below wq.heap.size wq wE := HB5.out.trans (hfE.below (fun i hi => (HJ5.out.jd.low i hi).1) hz5)
            have dE := str_of wE b m cb ys (HRB.out.below (HBQ.out.trans (hbE.mono hzq)))
            have HJE := Lib.hid hjE
            have HBE := Lib.hid hbE
            clear hjE hfE hwE hbE
            obtain ⟨EA, hEA⟩ : ∃ EA : Option Addr, EA = none := ⟨_, rfl⟩
            have HSE := Lib.hid (show OwnStrs wE wq.heap.size (.slice none 0 0) [] from OwnStrs.nil)
            have HOE := Lib.hid (show ∀ g, (Value.slice none 0 0).ownBlock = some g → ¬ joined SE TE g from fun g h => (by cases h))
            have HRSE := Lib.hid (show RdStrs wE none [] from RdStrs.nil)
            have HEL := Lib.hid (show 0 = ([] : List (List Nat)).length from rfl)
            have hzE := HBE.out.size
            have hqsE := HJE.out.recLen
            rw [← HEL.out] at hqsE
            have hltE := HJE.out.jd.jat.lt
            go_wp2_with fail
            refine (open_calm HJE.out.jd.disk HJE.out.recs HJE.out.zero HJE.out.small HJE.out.snap HJE.out.short HJE.out.fits HJE.out.room_ HJE.out.base_).mono ?_
            rintro e w7 ⟨xb, S7, T7, rfl, hx7, hf7, hw7, hT7⟩
            have hj7 := HJE.out.beside hx7 hf7 hw7
            have hst7 := HSE.out.fr hf7 (fun g hg hS => HOE.out g hg (.inl hS))
            have hout7 : ∀ g, (Value.slice none 0 0).ownBlock = some g → ¬ joined S7 TE g := fun g hg hu => hu.elim (fun h => (hw7 g h).elim (fun h' => HOE.out g hg (.inl h')) (fun h' => by have := (HSE.out.lt g hg).2; omega)) (fun h => HOE.out g hg (.inr h))
            have hb7 : Below wq.heap.size wq w7 := HBE.out.trans (hf7.below (fun i hi => (HJE.out.jd.disk.low i hi).1) HJE.out.base_)
            obtain ⟨A7, c7, heq7, hrs7⟩ := hst7.form
            rw [← HEL.out] at heq7
            injection heq7 with e71 e72 e73
            subst e71 e73
            have HX7 := Lib.hid hx7
            have HJ7 := Lib.hid hj7
            have HS7 := Lib.hid hst7
            have HO7 := Lib.hid hout7
            have HB7 := Lib.hid hb7
            have HSHX := Lib.hid (shows_any hx7.jd.jat ys hltE.1 none 0 0 ([]) HEL.out.symm hrs7 hltE.2 (by omega) ((t : Int) + 1) true (by simp))
            have hz7 := hb7.size
            clear hx7 hf7 hw7 hT7 hj7 hst7 hout7 hb7
            go_wp2_with fail
            refine HSHX.out.mono ?_
            rintro e w8 ⟨rfl, hb8⟩
            have HJ8 := Lib.hid (HJ7.out.below hb8)
            have HS8 := Lib.hid (HS7.out.below hb8)
            have HB8 := Lib.hid (HB7.out.trans (hb8.mono hz7))
            have HSHJ := Lib.hid (shows_any (HJ7.out.below hb8).jd.jat ys hltE.1 none 0 0 ([]) HEL.out.symm (hrs7.below hb8) hltE.2 (by omega) ((t : Int) + 1) true (by simp))
            have hz8 : wq.heap.size ≤ w8.heap.size := Nat.le_trans hz7 hb8.size
            clear hb8 hrs7
            go_wp2_with fail
            refine HSHJ.out.mono ?_
            rintro e w9 ⟨rfl, hb9⟩
            have HJ9 := Lib.hid (HJ8.out.below hb9)
            have HS9 := Lib.hid (HS8.out.below hb9)
            have HB9 := Lib.hid (HB8.out.trans (hb9.mono hz8))
            have hz9 : wq.heap.size ≤ w9.heap.size := Nat.le_trans hz8 hb9.size
            clear hb9
            obtain ⟨u9, hu9⟩ : ∃ u9, ptotal (jf (t + 1) ys (none)) = u9 := ⟨_, rfl⟩
            have hfit9 := HJ9.out.fits
            rw [hu9] at hfit9
            have hu9n : ¬ ((room : Int) < (u9 : Int)) := by omega
            have HU9 := Lib.hid (used_q HJ9.out.jd.disk (by rw [hu9]; omega) hu9)
            clear hu9
            go_wp2_with fail
            refine HU9.out.mono ?_
            rintro e w10 ⟨rfl, hb10⟩
            have HJ10 := Lib.hid (HJ9.out.below hb10)
            have HS10 := Lib.hid (HS9.out.below hb10)
            have HB10 := Lib.hid (HB9.out.trans (hb10.mono hz9))
            clear hb10
            go_wp2
            go_roundw
            case rel => exact ⟨k + 1, (t + 1), ys, ([]), (none), S7, TE, by omega, by omega, by go_num, rfl, (by go_num), HJ10.out, HS10.out, HO7.out, HB10.out⟩
            case measure => simp [intOf]; omega
          · have HFS := Lib.hid (show (room : Int) < (ptotal (jf t bb o) : Int) + (6 + (snapRec ((t : Int) + 1) ys).length) by omega)
            clear hfs
            go_wp2_with fail
            refine (save_full_ HJ5.out b m cb HRY5.out HYW.out (by omega) (by omega) HFS.out).mono ?_
            rintro e w6 ⟨rfl, hb6⟩
            have HJ5 := Lib.hid (HJ5.out.below hb6)
            have HST5 := Lib.hid (HST5.out.below hb6)
            have HB5 := Lib.hid (HB5.out.trans (hb6.mono hz5))
            clear hb6 hz5
            have hz5 := HB5.out.size
            obtain ⟨wE, hwE⟩ : ∃ wE, wE = w6 := ⟨_, rfl⟩
            have hrsE := (HST5.out.form)
            obtain ⟨EA, ec, heq, hrsE⟩ := hrsE
            rw [← HRLE.out] at heq
            obtain ⟨el, hel⟩ : ∃ el, el = rl := ⟨_, rfl⟩
            injection heq with e1 e2 e3
            subst e1 e3
            have HJE := Lib.hid (show Jn wE S T wq.heap.size jb wq.heap.size (room : Int) t bb qs o by rw [hwE]; exact HJ5.out)
            have HSE := Lib.hid (show OwnStrs wE wq.heap.size (.slice RA el rc) qs by rw [hwE, hel]; exact HST5.out)
            have HOE := Lib.hid (show ∀ g, (Value.slice RA el rc).ownBlock = some g → ¬ joined S T g by rw [hel]; exact HOUT.out)
            have HBE := Lib.hid (show Below wq.heap.size wq wE by rw [hwE]; exact HB5.out)
            have HRSE := Lib.hid (show RdStrs wE RA qs by rw [hwE]; exact hrsE)
            have HEL := Lib.hid (show el = qs.length by rw [hel]; exact HRLE.out)
            rw [← hwE, ← hel]
            clear hwE hel hrsE
            have hzE := HBE.out.size
            have hqsE := HJE.out.recLen
            rw [← HEL.out] at hqsE
            have hltE := HJE.out.jd.jat.lt
            go_wp2_with fail
            refine (open_calm HJE.out.jd.disk HJE.out.recs HJE.out.zero HJE.out.small HJE.out.snap HJE.out.short HJE.out.fits HJE.out.room_ HJE.out.base_).mono ?_
            rintro e w7 ⟨xb, S7, T7, rfl, hx7, hf7, hw7, hT7⟩
            have hj7 := HJE.out.beside hx7 hf7 hw7
            have hst7 := HSE.out.fr hf7 (fun g hg hS => HOE.out g hg (.inl hS))
            have hout7 : ∀ g, (Value.slice RA el rc).ownBlock = some g → ¬ joined S7 T g := fun g hg hu => hu.elim (fun h => (hw7 g h).elim (fun h' => HOE.out g hg (.inl h')) (fun h' => by have := (HSE.out.lt g hg).2; omega)) (fun h => HOE.out g hg (.inr h))
            have hb7 : Below wq.heap.size wq w7 := HBE.out.trans (hf7.below (fun i hi => (HJE.out.jd.disk.low i hi).1) HJE.out.base_)
            obtain ⟨A7, c7, heq7, hrs7⟩ := hst7.form
            rw [← HEL.out] at heq7
            injection heq7 with e71 e72 e73
            subst e71 e73
            have HX7 := Lib.hid hx7
            have HJ7 := Lib.hid hj7
            have HS7 := Lib.hid hst7
            have HO7 := Lib.hid hout7
            have HB7 := Lib.hid hb7
            have HSHX := Lib.hid (shows_any hx7.jd.jat bb hltE.1 RA el rc (qs) HEL.out.symm hrs7 hltE.2 (by omega) ((t : Int)) true (by simp))
            have hz7 := hb7.size
            clear hx7 hf7 hw7 hT7 hj7 hst7 hout7 hb7
            go_wp2_with fail
            refine HSHX.out.mono ?_
            rintro e w8 ⟨rfl, hb8⟩
            have HJ8 := Lib.hid (HJ7.out.below hb8)
            have HS8 := Lib.hid (HS7.out.below hb8)
            have HB8 := Lib.hid (HB7.out.trans (hb8.mono hz7))
            have HSHJ := Lib.hid (shows_any (HJ7.out.below hb8).jd.jat bb hltE.1 RA el rc (qs) HEL.out.symm (hrs7.below hb8) hltE.2 (by omega) ((t : Int)) true (by simp))
            have hz8 : wq.heap.size ≤ w8.heap.size := Nat.le_trans hz7 hb8.size
            clear hb8 hrs7
            go_wp2_with fail
            refine HSHJ.out.mono ?_
            rintro e w9 ⟨rfl, hb9⟩
            have HJ9 := Lib.hid (HJ8.out.below hb9)
            have HS9 := Lib.hid (HS8.out.below hb9)
            have HB9 := Lib.hid (HB8.out.trans (hb9.mono hz8))
            have hz9 : wq.heap.size ≤ w9.heap.size := Nat.le_trans hz8 hb9.size
            clear hb9
            obtain ⟨u9, hu9⟩ : ∃ u9, ptotal (jf (t) bb (o)) = u9 := ⟨_, rfl⟩
            have hfit9 := HJ9.out.fits
            rw [hu9] at hfit9
            have hu9n : ¬ ((room : Int) < (u9 : Int)) := by omega
            have HU9 := Lib.hid (used_q HJ9.out.jd.disk (by rw [hu9]; omega) hu9)
            clear hu9
            go_wp2_with fail
            refine HU9.out.mono ?_
            rintro e w10 ⟨rfl, hb10⟩
            have HJ10 := Lib.hid (HJ9.out.below hb10)
            have HS10 := Lib.hid (HS9.out.below hb10)
            have HB10 := Lib.hid (HB9.out.trans (hb10.mono hz9))
            clear hb10
            go_wp2
            go_roundw
            case rel => exact ⟨k + 1, (t), bb, (qs), (o), S7, T, by omega, by omega, by go_num, rfl, rfl, HJ10.out, HS10.out, HO7.out, HB10.out⟩
            case measure => simp [intOf]; omega
    · obtain rfl : k = n := by omega
      have HJ := Lib.hid hj
      have HBEL := Lib.hid (HBQ.out.trans (hbel.mono hzq))
      clear hj hst hout hbel
      go_wp2_with fail
      refine (broken_any HJ.out.jd.jat).mono ?_
      rintro e w4 ⟨rfl, rfl⟩
      go_wp2
      go_ret
      exact ⟨rfl, HBEL.out⟩
end Go.Proofs.YtlakkhhibdcjaaaGreatDoor
