/-
  JournalStops walked: wherever the disk stops, and whatever it keeps: all that told no error is there, and of what did, a beginning of its records, or the snapshot.
-/
import Derived.Test.YtlakkhhibdcjaaaGreatDoorActWords
import Derived.Test.YtlakkhhibdcjaaaGreatDoorJourStop
import Derived.Test.YtlakkhhibdcjaaaGreatDoorGuarded
import Derived.Test.YtlakkhhibdcjaaaGreatDoorNumber
namespace Go.Proofs.YtlakkhhibdcjaaaGreatDoor
open Go Go.RowKit Go.Maps
set_option linter.unusedVariables false

theorem i64_of {x : Int} (h : (Lit.int .i64 x).wf = true) : -9223372036854775808 ≤ x ∧ x ≤ 9223372036854775807 := by
  have e1 : IntKind.i64.min = -9223372036854775808 := rfl
  have e2 : IntKind.i64.max = 9223372036854775807 := rfl
  simp only [Lit.wf, Bool.and_eq_true, decide_eq_true_eq] at h
  omega
theorem hits3 (s : DS) (o : Option (List (List Nat))) : (s.hit = true ∨ (s.hit = false ∧ s.go.hit = true) ∨ (s.hit = false ∧ s.go.hit = false ∧ s.go.go.hit = true)) ∨
    (s.hit = false ∧ s.go.hit = false ∧ s.go.go.hit = false ∧ (o ≠ none → s.go.go.go.hit = false)) ∨ (s.hit = false ∧ s.go.hit = false ∧ s.go.go.hit = false ∧ s.go.go.go.hit = true ∧ ∃ qs, o = some qs) := by
  cases h1 : s.hit <;> cases h2 : s.go.hit <;> cases h3 : s.go.go.hit <;> cases h4 : s.go.go.go.hit <;> cases o <;> simp
theorem hits2 (s : DS) : (s.hit = true ∨ (s.hit = false ∧ s.go.hit = true)) ∨ (s.hit = false ∧ s.go.hit = false) := by
  cases h1 : s.hit <;> cases h2 : s.go.hit <;> simp
theorem take_same {fs qs : List (List Nat)} {p i : Nat} (hp : p ≤ i) (hi : i ≤ fs.length) : qs ++ fs.take i = qs ++ fs.take p ↔ p = i := by
  constructor
  · intro h
    have := congrArg List.length h
    simp only [List.length_append, List.length_take] at this
    omega
  · rintro rfl; rfl

set_option maxRecDepth 100000 in
set_option maxHeartbeats 16000000 in
theorem journalStops_walk (w : World) (a : Option Addr) (la ca : Nat) (ha : IsActs w a la ca) (arm_ : Int) (harm_ : (Lit.int .u8 arm_).wf = true) (keep : Int) (hkeep_ : (Lit.int .i64 keep).wf = true) (ag_ : Int) (hag_ : (Lit.int .u8 ag_).wf = true) (hh : HasErr w) :
    Calls Tryz.prog 3 #[.slice a la ca, .int .u8 arm_, .int .i64 keep, .int .u8 ag_] w fun e w' => e = .returned (.bool true) ∧ Below w.heap.size w w' := by
  obtain ⟨arm, rfl, harm⟩ := u8_nat harm_
  obtain ⟨ag, rfl, hag⟩ := u8_nat hag_
  have hkeep := i64_of hkeep_
  obtain ⟨r30, hr30⟩ : ∃ r30, r30 = arm % 30 := ⟨_, rfl⟩
  have hr30e : (arm : Int) % 30 = (r30 : Int) := by omega
  have hr30l : r30 < 30 := by omega
  obtain ⟨vs, hvl, hvs, hlc, hcm⟩ := acts_list ha
  obtain ⟨n, hn⟩ : ∃ n, n = min la 60 := ⟨_, rfl⟩
  have hmin := min2_ok (P := Tryz.prog) la 60 n (la : Int) 60 rfl rfl hn
  have hf1 := fun W => run_frontA W a la ca n (by omega)
  have hn60 : n ≤ 60 := by omega
  have hnl : n ≤ la := by omega
  have HVS := Lib.hid hvs
  have HVL := Lib.hid hvl
  have HH := Lib.hid hh
  unfold maxLen at hcm
  clear ha hvs hvl hn hh harm_ hag_ hkeep_ hr30
  go_enter Tryz.func3, Tryz.ntmps3
  go_wp2_with fail
  refine (awake_ok w).mono ?_
  rintro e w1 ⟨rfl, hb1⟩
  have HB1 := Lib.hid hb1
  have hz1 := hb1.size
  clear hb1
  go_wp2_with fail
  refine (of_q 262144 262144 262144 w1 rfl rfl).mono ?_
  rintro e w2 ⟨rfl, hd2, hb2⟩
  have hz2 := hb2.size
  have HD2 := Lib.hid hd2
  have HB2 := Lib.hid hb2
  clear hd2 hb2 hmin hf1
  go_wp2_with fail
  refine (open_new HD2.out (by omega) hz2).mono ?_
  rintro e w3 ⟨jb, S3, T3, rfl, hj3, hf3, _, _⟩
  have hb3 : Below w1.heap.size w1 w3 := HB2.out.trans (hf3.below (fun i hi => (HD2.out.low i hi).1) hz2)
  have hz3 := hb3.size
  have HJ3 := Lib.hid hj3
  have HB3 := Lib.hid hb3
  clear hj3 hf3 hb3
  go_wp2_with fail
  refine (arm_q HJ3.out.jd.disk r30 (by omega)).mono ?_
  rintro e w4 ⟨rfl, hs4⟩
  obtain ⟨S4, T4, hj4, hf4, hw4⟩ := HJ3.out.jd.step hs4
  have hb4 : Below w1.heap.size w1 w4 := HB3.out.trans (hf4.below (fun i hi => (HJ3.out.jd.low i hi).1) HJ3.out.base_)
  have HJ4 := Lib.hid (show Jm w4 S4 T4 w1.heap.size jb w1.heap.size 262144 ⟨true, r30, false⟩ 0 [] [] none from ⟨hj4, rfl, by show r30 ≤ 1000; omega, HJ3.out.recs, HJ3.out.zero, HJ3.out.small, HJ3.out.snap, HJ3.out.short, HJ3.out.fits, HJ3.out.room_, Nat.le_trans HJ3.out.base_ hf4.size⟩)
  have HB4 := Lib.hid hb4
  clear hs4 hj4 hf4 hw4 hb4
  go_wp2
  go_loopw [12, 13, 14, 52] (fun s12 s13 v i wr => ∃ (k t : Nat) (bb : List Nat) (qs : List (List Nat)) (o : Option (List (List Nat))) (s : DS) (S T : Nat → Prop), k ≤ n ∧ t ≤ k ∧ i = .int .i64 (k : Int) ∧ s12 = .string (strN bb) ∧ s13 = .int .i64 (t : Int) ∧
      Jm wr S T w1.heap.size jb w1.heap.size 262144 s t bb qs o ∧ ptotal (jf t bb o) ≤ 2024 * k + 516 ∧ OwnStrs wr w1.heap.size v qs ∧ (∀ g, v.ownBlock = some g → ¬ joined S T g) ∧ Below w1.heap.size w1 wr) (fun _ _ _ i _ => n - (intOf i).toNat)
  case atStart => exact ⟨0, 0, [], [], none, _, S4, T4, Nat.zero_le _, Nat.le_refl _, rfl, rfl, rfl, HJ4.out, by simp [jf, snapF, recF, ptotal], OwnStrs.nil, fun g h => (by cases h), HB4.out⟩
  case round =>
    obtain ⟨k, t, bb, qs, o, s, S, T, hk, htk, rfl, rfl, rfl, hj, htot, hst, hout, hbel⟩ := hrel
    by_cases hlt : k < n
    · have hlt' : k < vs.length := by rw [HVL.out]; omega
      obtain ⟨ad, rfl, hacts⟩ := HVS.out (by omega)
      obtain ⟨RA, RC, BA, BC, hat0⟩ := hacts k vs[k] (List.getElem?_eq_getElem hlt')
      have hwr : Below w.heap.size w wr := HB1.out.trans (hbel.mono hz1)
      have hat := hat0.below hwr
      obtain ⟨x, hx⟩ : ∃ x, x = vs[k] := ⟨_, rfl⟩
      rw [← hx] at hat hat0
      have hrowR := hat0.rows.toR
      obtain ⟨op, rows, byts⟩ := x
      obtain ⟨c0, c1, c2, hrows, hbytes, hrlt, hblt, hop, hrc, hbc⟩ := hat
      simp only at c0 c1 c2 hrows hbytes hrlt hblt hop hrc hbc hrowR
      have hbto : RowTo (fun i => i < w.heap.size) (.slice BA byts.length BC) := hat0.bytes.to
      have hrr : RdRowsR (fun i => i < w.heap.size) wr RA rows := hrowR.same fun i hi => hwr.block i hi
      obtain ⟨rl, hrl⟩ : ∃ rl, rows.length = rl := ⟨_, rfl⟩
      obtain ⟨bl, hbl⟩ : ∃ bl, byts.length = bl := ⟨_, rfl⟩
      rw [hrl] at c1 hrc
      rw [add_next ad (k * 3) 1 (by omega)] at c1
      rw [add_next ad (k * 3) 2 (by omega)] at c2
      rw [hbl] at c2 hbytes hbc hbto
      obtain ⟨RV, rc, hrv, hrs⟩ := hst.form
      obtain ⟨sl, hsl⟩ : ∃ sl, sl = qs.length := ⟨_, rfl⟩
      rw [← hsl] at hrv
      have hql := hj.recLen
      rw [← hsl] at hql
      subst hrv
      have hzr := hbel.size
      have hwz := hwr.size
      have hwB := HB1.out.size
      have HJ := Lib.hid hj
      have HST := Lib.hid hst
      have HOUT := Lib.hid hout
      have HBEL := Lib.hid hbel
      have HWR := Lib.hid hwr
      have HRR := Lib.hid hrr
      have HBY := Lib.hid hbytes
      have HBTO := Lib.hid hbto
      have HRLT := Lib.hid hrlt
      have HBLT := Lib.hid hblt
      have HRL := Lib.hid hrl
      have HBL := Lib.hid hbl
      have HSL := Lib.hid hsl
      have HTOT := Lib.hid htot
      have hrc1 := hrc.1
      have hbc1 := hbc.1
      clear hj hst hout hbel hwr hrr hbytes hbto hrlt hblt hrl hbl hrc hbc hsl htot hrs hrows hat0 hacts hx hrowR hlt'
      -- the Act of this round
      have hAblk := heap_alloc_new wr (.cells #[.int .u8 (op : Int), .slice RA rl RC, .slice BA bl BC] 36)
      have hzA : (wr.alloc (.cells #[.int .u8 (op : Int), .slice RA rl RC, .slice BA bl BC] 36)).heap.size = wr.heap.size + 1 := by simp
      have HJA := Lib.hid (HJ.out.alloc (.cells #[.int .u8 (op : Int), .slice RA rl RC, .slice BA bl BC] 36))
      have HSTA := Lib.hid (HST.out.alloc (.cells #[.int .u8 (op : Int), .slice RA rl RC, .slice BA bl BC] 36))
      have HBA := Lib.hid (HBEL.out.alloc hzr (.cells #[.int .u8 (op : Int), .slice RA rl RC, .slice BA bl BC] 36))
      have HABLK := Lib.hid hAblk
      have HNA := Lib.hid (show ¬ joined S T wr.heap.size from HJ.out.out _ (Nat.le_refl _))
      clear hAblk
      obtain ⟨q, hq⟩ : ∃ q, q = op % 4 := ⟨_, rfl⟩
      have hq4 : (op : Int) % 4 = (q : Int) := by omega
      have hqlt : q < 4 := by omega
      clear hq
      by_cases hq0 : q = 0
      · have t0 := eqT (show (q : Int) = 0 by omega)
        obtain ⟨m, hm⟩ : ∃ m, m = min bl 500 := ⟨_, rfl⟩
        obtain ⟨ys, hys⟩ : ∃ ys, ys = byts.take m := ⟨_, rfl⟩
        have hyl : ys.length = m := by rw [hys, List.length_take, HBL.out]; omega
        have hyw : ∀ x ∈ ys, x < 256 := fun x hx => HBLT.out x (by rw [hys] at hx; exact List.mem_of_mem_take hx)
        have hyr : Rd .u8 wr BA m (ints ys) := by have h := HBY.out.front (j := m) (by omega); rw [ints_take, ← hys] at h; exact h
        have hyt : RowTo (fun i => i < w.heap.size) (.slice BA m BC) := fun A' n' c' ad' e hn' ha' => by injection e with e1 e2 e3; subst e1; exact HBTO.out _ _ _ ad' rfl (by omega) ha'
        have hm5 : m ≤ 500 := by omega
        have hsl := snapRec_len ((t : Int) + 1) ys (by omega) (by omega)
        rw [hyl] at hsl
        have HM := Lib.hid hm
        have HYL := Lib.hid hyl
        have HYW := Lib.hid hyw
        have HYR := Lib.hid hyr
        have HYT := Lib.hid hyt
        clear hm hys hyl hyw hyr hyt
        go_wp2_with fail
        refine (bytes_any _ (.int .u8 (op : Int)) (.slice RA rl RC) BA bl BC m HM.out hbc1).mono ?_
        rintro e w5 ⟨rfl, hb5⟩
        have hz5 := hb5.size
        have HJ5 := Lib.hid (HJA.out.below hb5)
        have HST5 := Lib.hid (HSTA.out.below hb5)
        have HB5 := Lib.hid (HBA.out.trans (hb5.mono (by omega)))
        have HR5 := Lib.hid ((HYR.out.alloc (.cells #[.int .u8 (op : Int), .slice RA rl RC, .slice BA bl BC] 36)).below hb5)
        have HA5 := Lib.hid (show w5.heap[wr.heap.size]? = some (.cells #[.int .u8 (op : Int), .slice RA rl RC, .slice BA bl BC] 36) by rw [hb5.block _ (by omega)]; exact HABLK.out)
        clear hb5
        rcases hits3 s o with hc | ⟨hh1, hh2, hh3, hh4⟩ | ⟨hh1, hh2, hh3, hh4, qs', ho⟩
        · -- it stops ahead of the rename's end
          go_wp2_with fail
          refine (save_crash_ HJ5.out hc (by omega) BA m BC HR5.out HYW.out (by omega) (by omega) (by have := HTOT.out; omega)).mono ?_
          rintro e w6 ⟨rfl, n1, s6, hs6, S6, T6, hj6, hf6, hw6⟩
          have hb6 : Below w1.heap.size w1 w6 := HB5.out.trans (hf6.below (fun i hi => (HJ5.out.jd.low i hi).1) HJ5.out.base_)
          have hst6 := HST5.out.fr hf6 HOUT.out
          have hout6 := out_wide (v := .slice RV sl rc) HOUT.out (fun g hg => by have := (HST5.out.lt g hg).2; omega) hw6
          have HJ6 := Lib.hid hj6
          have HS6 := Lib.hid hs6
          have HST6 := Lib.hid hst6
          have HO6 := Lib.hid hout6
          have HB6 := Lib.hid hb6
          have hz6 := hb6.size
          clear hj6 hf6 hw6 hb6 hst6 hout6 hs6 hc
          go_wp2_with fail
          refine (number_err 12 w6 (HH.out.below (HB1.out.trans (HB6.out.mono hz1)))).mono ?_
          rintro e w7 ⟨rfl, hb7⟩
          have HJ7 := Lib.hid (HJ6.out.below hb7)
          have HST7 := Lib.hid (HST6.out.below hb7)
          have HB7 := Lib.hid (HB6.out.trans (hb7.mono hz6))
          have hz7 := HB7.out.size
          clear hb7
          go_wp2_with fail
          refine (broken_any HJ7.out.jat).mono ?_
          rintro e w8 ⟨rfl, rfl⟩
          go_wp2_with fail
          refine (stopped_q HJ7.out.disk).mono ?_
          rintro e w8 ⟨rfl, rfl⟩
          rw [HS6.out]
          go_wp2_with fail
          refine (restart_save HJ7.out.disk keep hkeep HJ.out.small HJ.out.snap (by omega) (by have := HTOT.out; omega) hz7).mono ?_
          rintro e w8 ⟨rfl, zs, m8, hz8l, S8, hd8, hf8, hw8⟩
          have hb8 : Below w1.heap.size w1 w8 := HB7.out.trans (hf8.below (fun i hi => (HJ7.out.disk.low i hi).1) hz7)
          have hst8 := HST7.out.fr hf8 (fun g hg hS => HO6.out g hg (.inl hS))
          have hns8 : ∀ g, (Value.slice RV sl rc).ownBlock = some g → ¬ S8 g := out_wide (fun g hg hS => HO6.out g hg (.inl hS)) (fun g hg => (HST7.out.lt g hg).2) hw8
          have HD8 := Lib.hid hd8
          have HST8 := Lib.hid hst8
          have HNS8 := Lib.hid hns8
          have HB8 := Lib.hid hb8
          have hz8 := hb8.size
          clear hd8 hf8 hw8 hb8 hst8 hns8
          go_wp2_with fail
          refine (open_saved HD8.out hz8l HJ.out.recs HJ.out.short HJ.out.zero HJ.out.small HJ.out.snap HJ.out.fits HJ.out.room_ hz8).mono ?_
          rintro e w9 ⟨xb, S9, T9, rfl, hx9, hf9, hw9, hT9⟩
          have hst9 := HST8.out.fr hf9 HNS8.out
          have hb9 : Below w1.heap.size w1 w9 := HB8.out.trans (hf9.below (fun i hi => (HD8.out.low i hi).1) hz8)
          obtain ⟨A9, c9, heq9, hrs9⟩ := hst9.form
          rw [← HSL.out] at heq9
          injection heq9 with e91 e92 e93
          subst e91 e93
          have hltE := hx9.jd.jat.lt
          have HSHX := Lib.hid (shows_any hx9.jd.jat bb hltE.1 RV sl rc qs HSL.out.symm hrs9 hltE.2 (by omega) (t : Int) true (by simp))
          have HB9 := Lib.hid hb9
          have hz9 := hb9.size
          clear hx9 hf9 hw9 hT9 hst9 hb9 hrs9 hltE
          go_wp2_with fail
          refine HSHX.out.mono ?_
          rintro e w10 ⟨rfl, hb10⟩
          have HB10 := Lib.hid (HB1.out.trans ((HB9.out.trans (hb10.mono hz9)).mono hz1))
          clear hb10
          go_wp2
          go_ret
          exact ⟨rfl, HB10.out⟩
        · -- it does not stop
          go_wp2_with fail
          refine (save_go_ HJ5.out hh1 hh2 hh3 hh4 (by omega) BA m BC HR5.out HYT.out (fun i hi => ⟨by omega, fun hjj => by have := (HJ5.out.jd.low i hjj).1; omega⟩) HYW.out (by omega) (by omega) (by have := HTOT.out; omega)).mono ?_
          rintro e w6 ⟨rfl, s6, S6, T6, hj6, hf6, hw6⟩
          have hz6 := hf6.size
          have hb6 : Below w1.heap.size w1 w6 := HB5.out.trans (hf6.below (fun i hi => (HJ5.out.jd.low i hi).1) HJ5.out.base_)
          have ha6 : w6.heap[wr.heap.size]? = some (.cells #[.int .u8 (op : Int), .slice RA rl RC, .slice BA bl BC] 36) := by rw [hf6.block _ (by omega) HNA.out]; exact HA5.out
          have d0 : w6.cell? ⟨wr.heap.size, 0, none⟩ = some (.int .u8 (op : Int)) := by simp [World.cell?, ha6]
          have d1 : w6.cell? ⟨wr.heap.size, 1, none⟩ = some (.slice RA rl RC) := by simp [World.cell?, ha6]
          have d2 : w6.cell? ⟨wr.heap.size, 2, none⟩ = some (.slice BA bl BC) := by simp [World.cell?, ha6]
          have HJ6 := Lib.hid hj6
          have HB6 := Lib.hid hb6
          have hz6w := hb6.size
          clear hj6 hf6 hw6 hb6 ha6 hh1 hh2 hh3 hh4
          go_wp2_with fail
          refine (bytes_any w6 (.int .u8 (op : Int)) (.slice RA rl RC) BA bl BC m HM.out hbc1).mono ?_
          rintro e w7 ⟨rfl, hb7⟩
          have HJ7 := Lib.hid (HJ6.out.below hb7)
          have HB7 := Lib.hid (HB6.out.trans (hb7.mono hz6w))
          have hy0 : Rd .u8 w7 BA m (ints ys) := (HYR.out.same fun ad' ha' hn' => by
            have h1 := HYT.out BA m BC ad' rfl hn' ha'
            have h2 : Below w.heap.size w w7 := HB1.out.trans (HB7.out.mono hz1)
            rw [h2.block _ h1, HWR.out.block _ h1])
          have d3 := str_of w7 BA m BC ys hy0
          have HTOT2 := Lib.hid (show ptotal (jf (t + 1) ys none) ≤ 2024 * (k + 1) + 516 by rw [jf_reset]; omega)
          clear hb7 hy0 d0 d1 d2
          go_wp2
          go_roundw
          case rel => exact ⟨k + 1, t + 1, ys, [], none, s6, S6, T6, by omega, by omega, by go_num, rfl, by go_num, HJ7.out, HTOT2.out, OwnStrs.nil, fun g h => (by cases h), HB7.out⟩
          case measure => simp [intOf]; omega
        · -- it stops behind the rename
          subst ho
          have hqs' : qs' = qs := by have := HJ.out.recs; simpa using this
          subst hqs'
          go_wp2_with fail
          refine (save_late_ HJ5.out hh1 hh2 hh3 hh4 (by omega) BA m BC HR5.out HYT.out (fun i hi => ⟨by omega, fun hjj => by have := (HJ5.out.jd.low i hjj).1; omega⟩) HYW.out (by omega) (by omega) (by have := HTOT.out; omega)).mono ?_
          rintro e w6 ⟨rfl, s6, hs6, S6, T6, hj6, hf6, hw6⟩
          have hz6f := hf6.size
          have hb6 : Below w1.heap.size w1 w6 := HB5.out.trans (hf6.below (fun i hi => (HJ5.out.jd.low i hi).1) HJ5.out.base_)
          have hst6 := HST5.out.fr hf6 HOUT.out
          have hout6 := out_wide (v := .slice RV sl rc) HOUT.out (fun g hg => by have := (HST5.out.lt g hg).2; omega) hw6
          have ha6 : w6.heap[wr.heap.size]? = some (.cells #[.int .u8 (op : Int), .slice RA rl RC, .slice BA bl BC] 36) := by rw [hf6.block _ (by omega) HNA.out]; exact HA5.out
          have hna6 : ¬ joined S6 T6 wr.heap.size := fun hjj => (hw6 _ hjj).elim HNA.out (fun h => by omega)
          have HJ6 := Lib.hid hj6
          have HS6 := Lib.hid hs6
          have HST6 := Lib.hid hst6
          have HO6 := Lib.hid hout6
          have HB6 := Lib.hid hb6
          have HA6 := Lib.hid ha6
          have HNA6 := Lib.hid hna6
          have hz6 := hb6.size
          have hflq : (flat qs').length ≤ 300000 := by
            have h1 := HJ.out.fits
            rw [jf_total] at h1
            simp only at h1
            omega
          clear hj6 hf6 hw6 hb6 hst6 hout6 hs6 ha6 hna6 hh1 hh2 hh3 hh4
          go_wp2_with fail
          refine (number_err 12 w6 (HH.out.below (HB1.out.trans (HB6.out.mono hz1)))).mono ?_
          rintro e w7 ⟨rfl, hb7⟩
          have HJ7 := Lib.hid (HJ6.out.below hb7)
          have HST7 := Lib.hid (HST6.out.below hb7)
          have HB7 := Lib.hid (HB6.out.trans (hb7.mono hz6))
          have HA7 := Lib.hid (show w7.heap[wr.heap.size]? = some (.cells #[.int .u8 (op : Int), .slice RA rl RC, .slice BA bl BC] 36) by rw [hb7.block _ (by omega)]; exact HA6.out)
          have hz7 := HB7.out.size
          have hz67 := hb7.size
          clear hb7
          go_wp2_with fail
          refine (broken_any HJ7.out.jat).mono ?_
          rintro e w8 ⟨rfl, rfl⟩
          go_wp2_with fail
          refine (stopped_q HJ7.out.disk).mono ?_
          rintro e w8 ⟨rfl, rfl⟩
          rw [HS6.out]
          go_wp2_with fail
          refine (restart_late HJ7.out.disk keep hkeep HJ.out.small (by omega) hflq hz7).mono ?_
          rintro e w8 ⟨rfl, S8, hd8, hf8, hw8⟩
          have hz8f := hf8.size
          have hb8 : Below w1.heap.size w1 w8 := HB7.out.trans (hf8.below (fun i hi => (HJ7.out.disk.low i hi).1) hz7)
          have hst8 := HST7.out.fr hf8 (fun g hg hS => HO6.out g hg (.inl hS))
          have hns8 : ∀ g, (Value.slice RV sl rc).ownBlock = some g → ¬ S8 g := out_wide (fun g hg hS => HO6.out g hg (.inl hS)) (fun g hg => (HST7.out.lt g hg).2) hw8
          have hna8 : ¬ S8 wr.heap.size := fun h => (hw8 _ h).elim (fun h => HNA6.out (.inl h)) (fun h => by omega)
          have HD8 := Lib.hid hd8
          have HST8 := Lib.hid hst8
          have HNS8 := Lib.hid hns8
          have HB8 := Lib.hid hb8
          have HA8 := Lib.hid (show w8.heap[wr.heap.size]? = some (.cells #[.int .u8 (op : Int), .slice RA rl RC, .slice BA bl BC] 36) by rw [hf8.block _ (by omega) (fun h => HNA6.out (.inl h))]; exact HA7.out)
          have HNA8 := Lib.hid hna8
          have hz8 := hb8.size
          have e1 : ((t + 1 : Nat) : Int) = (t : Int) + 1 := by omega
          have HFT := Lib.hid (show (ptotal (jf (t + 1) ys none) : Int) ≤ 262144 by rw [jf_reset]; omega)
          have HSN := Lib.hid (show (snapRec ((t + 1 : Nat) : Int) ys).length ≤ 16384 by rw [e1]; omega)
          clear hd8 hf8 hw8 hb8 hst8 hns8 hna8
          go_wp2_with fail
          refine (open_late HD8.out hflq (by omega) HSN.out HFT.out (by omega) hz8).mono ?_
          rintro e w9 ⟨xb, S9, T9, rfl, hx9, hf9, hw9, hT9⟩
          have hst9 := HST8.out.fr hf9 HNS8.out
          have hb9 : Below w1.heap.size w1 w9 := HB8.out.trans (hf9.below (fun i hi => (HD8.out.low i hi).1) hz8)
          obtain ⟨A9, c9, heq9, hrs9⟩ := hst9.form
          rw [← HSL.out] at heq9
          injection heq9 with e91 e92 e93
          subst e91 e93
          have hltE := HJ.out.jd.jat.lt
          have ha9 : w9.heap[wr.heap.size]? = some (.cells #[.int .u8 (op : Int), .slice RA rl RC, .slice BA bl BC] 36) := by rw [hf9.block _ (by omega) HNA8.out]; exact HA8.out
          have HSHX := Lib.hid (shows_any hx9.jd.jat bb hltE.1 RV sl rc qs' HSL.out.symm hrs9 hltE.2 (by omega) (t : Int) false (by rw [e1]; simp; omega))
          have HX9 := Lib.hid hx9
          have HB9 := Lib.hid hb9
          have HA9 := Lib.hid ha9
          have hz9 := hb9.size
          have hz9f := hf9.size
          clear hx9 hf9 hw9 hT9 hst9 hb9 hrs9 hltE ha9
          go_wp2_with fail
          refine HSHX.out.mono ?_
          rintro e w10 ⟨rfl, hb10⟩
          have hz10f := hb10.size
          have ha10 : w10.heap[wr.heap.size]? = some (.cells #[.int .u8 (op : Int), .slice RA rl RC, .slice BA bl BC] 36) := by rw [hb10.block _ (by omega)]; exact HA9.out
          have d0 : w10.cell? ⟨wr.heap.size, 0, none⟩ = some (.int .u8 (op : Int)) := by simp [World.cell?, ha10]
          have d1 : w10.cell? ⟨wr.heap.size, 1, none⟩ = some (.slice RA rl RC) := by simp [World.cell?, ha10]
          have d2 : w10.cell? ⟨wr.heap.size, 2, none⟩ = some (.slice BA bl BC) := by simp [World.cell?, ha10]
          have HX10 := Lib.hid (HX9.out.below hb10)
          have HB10 := Lib.hid (HB9.out.trans (hb10.mono hz9))
          have hz10 := HB10.out.size
          clear hb10 ha10
          go_wp2_with fail
          refine (bytes_any w10 (.int .u8 (op : Int)) (.slice RA rl RC) BA bl BC m HM.out hbc1).mono ?_
          rintro e w11 ⟨rfl, hb11⟩
          have HB11 := Lib.hid (HB10.out.trans (hb11.mono hz10))
          have hz11 := HB11.out.size
          have hy0 : Rd .u8 w11 BA m (ints ys) := (HYR.out.same fun ad' ha' hn' => by
            have h1 := HYT.out BA m BC ad' rfl hn' ha'
            have h2 : Below w.heap.size w w11 := HB1.out.trans (HB11.out.mono hz1)
            rw [h2.block _ h1, HWR.out.block _ h1])
          have d3 := str_of w11 BA m BC ys hy0
          have HSHY := Lib.hid (shows_any (HX10.out.below hb11).jd.jat ys HYW.out none 0 0 [] rfl RdStrs.nil (by simp) (by omega) ((t : Int) + 1) true (by simp))
          clear hb11 hy0 d0 d1 d2 e1
          go_wp2_with fail
          refine HSHY.out.mono ?_
          rintro e w12 ⟨rfl, hb12⟩
          have HB12 := Lib.hid (HB1.out.trans ((HB11.out.trans (hb12.mono hz11)).mono hz1))
          clear hb12 d3
          go_wp2
          go_ret
          exact ⟨rfl, HB12.out⟩
      · have t0 := eqF (show (q : Int) ≠ 0 by omega)
        obtain ⟨fs, hfs⟩ : ∃ fs, few (rows.take 4) = fs := ⟨_, rfl⟩
        have hf4 : fs.length ≤ 4 := by rw [← hfs]; simp [few]; omega
        have hfr : ∀ r ∈ fs, r.length ≤ 500 := by rw [← hfs]; exact few_row _
        have hfl := flat_four hf4 hfr
        have hfw : ∀ r ∈ fs, ∀ x ∈ r, x < 256 := by rw [← hfs]; exact few_lt fun r hr => HRLT.out r (List.mem_of_mem_take hr)
        obtain ⟨fn, hfn⟩ : ∃ fn, fs.length = fn := ⟨_, rfl⟩
        rw [hfn] at hf4
        have HFS := Lib.hid hfs
        have HFW := Lib.hid hfw
        have HF16 := Lib.hid (show ∀ r ∈ fs, r.length ≤ 16384 from fun r hr => Nat.le_trans (hfr r hr) (by omega))
        have HFN := Lib.hid hfn
        have HFLL := Lib.hid hfl
        have HRRA := Lib.hid (HRR.out.below ((Below.refl _ wr).alloc (Nat.le_refl _) (.cells #[.int .u8 (op : Int), .slice RA rl RC, .slice BA bl BC] 36)) (fun i hi => by omega))
        clear hfs hfr hfl hfw hfn
        go_wp2_with fail
        refine (afew_any (R := fun i => i < w.heap.size) _ (.int .u8 (op : Int)) (.slice BA bl BC) RA rl RC rows HRRA.out (fun i hi => by omega) HRL.out hrc1).mono ?_
        rintro e w5 ⟨v5, rfl, hr5, hb5⟩
        rw [HFS.out] at hr5
        obtain ⟨FA, fc, hfv, _, _, hrd5⟩ := hr5.rdR
        subst hfv
        rw [HFN.out]
        have hz5 := hb5.size
        have HJ5 := Lib.hid (HJA.out.below hb5)
        have HST5 := Lib.hid (HSTA.out.below hb5)
        have HB5 := Lib.hid (HBA.out.trans (hb5.mono (by omega)))
        have HA5 := Lib.hid (show w5.heap[wr.heap.size]? = some (.cells #[.int .u8 (op : Int), .slice RA rl RC, .slice BA bl BC] 36) by rw [hb5.block _ (by omega)]; exact HABLK.out)
        have HRD5 := Lib.hid hrd5.lt
        clear hb5 hr5 hrd5
        rcases hits2 s with hc | ⟨hh1, hh2⟩
        · -- it stops
          go_wp2_with fail
          refine (append_crash_ HJ5.out hc FA fn fc (ns := fs) HFN.out HRD5.out.rd HFW.out (by omega) HF16.out (by have h1 := HTOT.out; have h2 := HFLL.out; omega)).mono ?_
          rintro e w6 ⟨rfl, s6, hs6, S6, T6, hj6, hf6, hw6⟩
          have hz6f := hf6.size
          have hb6 : Below w1.heap.size w1 w6 := HB5.out.trans (hf6.below (fun i hi => (HJ5.out.jd.low i hi).1) HJ5.out.base_)
          have hst6 := HST5.out.fr hf6 HOUT.out
          have hout6 := out_wide (v := .slice RV sl rc) HOUT.out (fun g hg => by have := (HST5.out.lt g hg).2; omega) hw6
          have ha6 : w6.heap[wr.heap.size]? = some (.cells #[.int .u8 (op : Int), .slice RA rl RC, .slice BA bl BC] 36) := by rw [hf6.block _ (by omega) HNA.out]; exact HA5.out
          have hna6 : ¬ joined S6 T6 wr.heap.size := fun hjj => (hw6 _ hjj).elim HNA.out (fun h => by omega)
          have HJ6 := Lib.hid hj6
          have HST6 := Lib.hid hst6
          have HO6 := Lib.hid hout6
          have HB6 := Lib.hid hb6
          have HA6 := Lib.hid ha6
          have HNA6 := Lib.hid hna6
          have hz6 := hb6.size
          clear hj6 hf6 hw6 hb6 hst6 hout6 hs6 ha6 hna6 hc
          go_wp2_with fail
          refine (number_err 12 w6 (HH.out.below (HB1.out.trans (HB6.out.mono hz1)))).mono ?_
          rintro e w7 ⟨rfl, hb7⟩
          have HJ7 := Lib.hid (HJ6.out.below hb7)
          have HST7 := Lib.hid (HST6.out.below hb7)
          have HB7 := Lib.hid (HB6.out.trans (hb7.mono hz6))
          have HA7 := Lib.hid (show w7.heap[wr.heap.size]? = some (.cells #[.int .u8 (op : Int), .slice RA rl RC, .slice BA bl BC] 36) by rw [hb7.block _ (by omega)]; exact HA6.out)
          have hz7 := HB7.out.size
          have hz67 := hb7.size
          clear hb7
          go_wp2_with fail
          refine (broken_any HJ7.out.jat).mono ?_
          rintro e w8 ⟨rfl, rfl⟩
          go_wp2_with fail
          refine (jappend_broken HJ7.out.jat _).mono ?_
          rintro e w8 ⟨rfl, rfl⟩
          go_wp2_with fail
          refine (number_err 12 w7 (HH.out.below (HB1.out.trans (HB7.out.mono hz1)))).mono ?_
          rintro e w8 ⟨rfl, hb8⟩
          have HJ8 := Lib.hid (HJ7.out.below hb8)
          have HST8 := Lib.hid (HST7.out.below hb8)
          have HB8 := Lib.hid (HB7.out.trans (hb8.mono hz7))
          have HA8 := Lib.hid (show w8.heap[wr.heap.size]? = some (.cells #[.int .u8 (op : Int), .slice RA rl RC, .slice BA bl BC] 36) by rw [hb8.block _ (by omega)]; exact HA7.out)
          have hz8 := HB8.out.size
          have hz78 := hb8.size
          clear hb8
          go_wp2_with fail
          refine (jsave_broken HJ8.out.jat _).mono ?_
          rintro e w9 ⟨rfl, rfl⟩
          go_wp2_with fail
          refine (number_err 12 w8 (HH.out.below (HB1.out.trans (HB8.out.mono hz1)))).mono ?_
          rintro e w9 ⟨rfl, hb9⟩
          have HJ9 := Lib.hid (HJ8.out.below hb9)
          have HST9 := Lib.hid (HST8.out.below hb9)
          have HB9 := Lib.hid (HB8.out.trans (hb9.mono hz8))
          have HA9 := Lib.hid (show w9.heap[wr.heap.size]? = some (.cells #[.int .u8 (op : Int), .slice RA rl RC, .slice BA bl BC] 36) by rw [hb9.block _ (by omega)]; exact HA8.out)
          have hz9 := HB9.out.size
          have hz89 := hb9.size
          clear hb9
          obtain ⟨kk, hkk⟩ : ∃ kk, IntKind.i64.wrap (keep + (k : Int)) = kk := ⟨_, rfl⟩
          have hkkr : -9223372036854775808 ≤ kk ∧ kk ≤ 9223372036854775807 := by rw [← hkk, IntKind.wrap_i64]; omega
          have hflq : (flat (qs ++ fs)).length ≤ 300000 := by
            have h1 := jf_grow t bb o qs fs HJ.out.recs
            rw [jf_total] at h1
            simp only at h1
            have h2 := HTOT.out
            have h3 := HFLL.out
            omega
          have HFLQ := Lib.hid hflq
          clear hflq
          go_wp2_with fail
          refine (restart_append HJ9.out.disk kk hkkr HJ.out.short HF16.out HJ.out.small HJ.out.snap HFLQ.out hz9).mono ?_
          rintro e w10 ⟨rfl, i, zs, hi, hsc, hzl, S10, hd10, hf10, hw10⟩
          have hz10f := hf10.size
          have hb10 : Below w1.heap.size w1 w10 := HB9.out.trans (hf10.below (fun i hi => (HJ9.out.disk.low i hi).1) hz9)
          have hst10 := HST9.out.fr hf10 (fun g hg hS => HO6.out g hg (.inl hS))
          have hns10 : ∀ g, (Value.slice RV sl rc).ownBlock = some g → ¬ S10 g := out_wide (fun g hg hS => HO6.out g hg (.inl hS)) (fun g hg => (HST9.out.lt g hg).2) hw10
          have hna10 : ¬ S10 wr.heap.size := fun h => (hw10 _ h).elim (fun h => HNA6.out (.inl h)) (fun h => by omega)
          have HD10 := Lib.hid hd10
          have HST10 := Lib.hid hst10
          have HNS10 := Lib.hid hns10
          have HB10 := Lib.hid hb10
          have HA10 := Lib.hid (show w10.heap[wr.heap.size]? = some (.cells #[.int .u8 (op : Int), .slice RA rl RC, .slice BA bl BC] 36) by rw [hf10.block _ (by omega) (fun h => HNA6.out (.inl h))]; exact HA9.out)
          have HNA10 := Lib.hid hna10
          have HSC := Lib.hid hsc
          have hz10 := hb10.size
          have hifn : i ≤ fn := by rw [← HFN.out]; exact hi
          have HFT := Lib.hid (show (ptotal (jf t bb (some (qs ++ fs.take i))) : Int) ≤ 262144 by
            have h0 := jf_grow t bb o qs (fs.take i) HJ.out.recs
            have h1 := flat_take_len fs i
            have h2 := HTOT.out
            have h3 := HFLL.out
            omega)
          clear hd10 hf10 hw10 hb10 hst10 hns10 hna10 hsc hkk
          go_wp2_with fail
          refine (open_appended HD10.out hzl HSC.out HJ.out.zero HJ.out.small HJ.out.snap HFT.out (by omega) hz10).mono ?_
          rintro e w11 ⟨xb, S11, T11, rfl, hx11, hf11, hw11, hT11⟩
          have hz11f := hf11.size
          have hst11 := HST10.out.fr hf11 HNS10.out
          have hout11 : ∀ g, (Value.slice RV sl rc).ownBlock = some g → ¬ joined S11 T11 g := fun g hg hu => hu.elim (fun h => (hw11 g h).elim (HNS10.out g hg) (fun h' => by have := (HST10.out.lt g hg).2; omega)) (fun h => by have h1 := hT11 g h; have := (HST10.out.lt g hg).2; omega)
          have hna11 : ¬ joined S11 T11 wr.heap.size := fun hu => hu.elim (fun h => (hw11 _ h).elim HNA10.out (fun h => by omega)) (fun h => by have := hT11 _ h; omega)
          have hb11 : Below w1.heap.size w1 w11 := HB10.out.trans (hf11.below (fun i hi => (HD10.out.low i hi).1) hz10)
          have HX11 := Lib.hid hx11
          have HST11 := Lib.hid hst11
          have HO11 := Lib.hid hout11
          have HB11 := Lib.hid hb11
          have HA11 := Lib.hid (show w11.heap[wr.heap.size]? = some (.cells #[.int .u8 (op : Int), .slice RA rl RC, .slice BA bl BC] 36) by rw [hf11.block _ (by omega) HNA10.out]; exact HA10.out)
          have HNA11 := Lib.hid hna11
          have HNV := Lib.hid (show ∀ g, (Value.slice RV sl rc).ownBlock = some g → g ≠ wr.heap.size from fun g hg => by have := (HST.out.lt g hg).2; omega)
          have hz11 := hb11.size
          obtain ⟨AB, hAB⟩ : ∃ AB, AB = wr.heap.size := ⟨_, rfl⟩
          obtain ⟨wr0, hwr0⟩ : ∃ wr0, wr0 = wr := ⟨_, rfl⟩
          clear hx11 hf11 hw11 hT11 hst11 hout11 hna11 hb11
          have hABw : AB < w11.heap.size := by omega
          have HWR0 := Lib.hid (show Below w.heap.size w wr0 by rw [hwr0]; exact HWR.out)
          have HRR0 := Lib.hid (show RdRowsR (fun i => i < w.heap.size) wr0 RA rows by rw [hwr0]; exact HRR.out)
          rw [← hAB] at HA11 HNA11 HNV
          go_wp2
          rw [← hAB]
          clear hAB hwr0
          go_loopw [14, 25] (fun v i25 wz => ∃ p pp : Nat, p ≤ i ∧ pp = p - 1 ∧ i25 = .int .i64 (p : Int) ∧ Jn wz S11 T11 w1.heap.size xb w1.heap.size 262144 t bb (qs ++ fs.take i) (some (qs ++ fs.take i)) ∧ OwnStrs wz w1.heap.size v (qs ++ fs.take pp) ∧ (∀ g, v.ownBlock = some g → ¬ joined S11 T11 g) ∧ (∀ g, v.ownBlock = some g → g ≠ AB) ∧
              wz.heap[AB]? = some (.cells #[.int .u8 (op : Int), .slice RA rl RC, .slice BA bl BC] 36) ∧ Below w1.heap.size w1 wz) (fun _ i25 _ => i - (intOf i25).toNat)
          case atStart => exact ⟨0, 0, Nat.zero_le _, rfl, rfl, HX11.out, by simpa using HST11.out, HO11.out, HNV.out, HA11.out, HB11.out⟩
          case round =>
            obtain ⟨p, pp, hp, hpp, rfl, hxz, hstz, houtz, hnvz, haz, hbz⟩ := hrel
            have d0 : wr.cell? ⟨AB, 0, none⟩ = some (.int .u8 (op : Int)) := by simp [World.cell?, haz]
            have d1 : wr.cell? ⟨AB, 1, none⟩ = some (.slice RA rl RC) := by simp [World.cell?, haz]
            have d2 : wr.cell? ⟨AB, 2, none⟩ = some (.slice BA bl BC) := by simp [World.cell?, haz]
            have hABl : AB < wr.heap.size := (Array.getElem?_eq_some_iff.1 haz).1
            have hzz := hbz.size
            have hrrz : RdRowsR (fun i => i < w.heap.size) wr RA rows := HRR0.out.same fun i hi => by
              have h2 : Below w.heap.size w wr := HB1.out.trans (hbz.mono hz1)
              rw [h2.block i hi, HWR0.out.block i hi]
            have HXZ := Lib.hid hxz
            have HSTZ := Lib.hid hstz
            have HOZ := Lib.hid houtz
            have HNZ := Lib.hid hnvz
            have HAZ := Lib.hid haz
            have HBZ := Lib.hid hbz
            have HRRZ := Lib.hid hrrz
            clear hxz hstz houtz hnvz haz hbz hrrz
            go_wp2_with fail
            refine (afew_any (R := fun i => i < w.heap.size) wr (.int .u8 (op : Int)) (.slice BA bl BC) RA rl RC rows HRRZ.out (fun i hi => by omega) HRL.out hrc1).mono ?_
            rintro e w12 ⟨v12, rfl, hr12, hb12⟩
            rw [HFS.out] at hr12
            obtain ⟨GA, gc, hgv, _, _, _⟩ := hr12.rdR
            subst hgv
            rw [HFN.out]
            have hz12f := hb12.size
            have HX12 := Lib.hid (HXZ.out.below hb12)
            have HST12 := Lib.hid (HSTZ.out.below hb12)
            have HA12 := Lib.hid (show w12.heap[AB]? = some (.cells #[.int .u8 (op : Int), .slice RA rl RC, .slice BA bl BC] 36) by rw [hb12.block _ (by omega)]; exact HAZ.out)
            have HB12 := Lib.hid (HBZ.out.trans (hb12.mono hzz))
            have hz12 := HB12.out.size
            have hpfn : (p : Int) ≤ (fn : Int) := by omega
            clear hb12 hr12 d0 d1 d2
            by_cases hp0 : p = 0
            · have hpp0 : pp = 0 := by omega
              have hst0 : OwnStrs w12 w1.heap.size u14 (qs ++ fs.take p) := by rw [hp0, ← hpp0]; exact HST12.out
              have hpz : ¬ ((0 : Int) < (p : Int)) := by omega
              clear hpp0 hpp
              obtain ⟨VA, vc, hve, _⟩ := hst0.form
              obtain ⟨vl, hvle⟩ : ∃ vl, vl = (qs ++ fs.take p).length := ⟨_, rfl⟩
              rw [← hvle] at hve
              subst hve
              have HVLE := Lib.hid hvle
              have HSTE := Lib.hid hst0
              have HXE := Lib.hid HX12.out
              have HOE := Lib.hid HOZ.out
              have HNE := Lib.hid HNZ.out
              have HAE := Lib.hid HA12.out
              have HBE := Lib.hid HB12.out
              obtain ⟨wE, hwE⟩ : ∃ wE, wE = w12 := ⟨_, rfl⟩
              rw [← hwE] at HSTE HXE HAE HBE ⊢
              clear hvle hst0 hwE
              have hzE := HBE.out.size
              have hvlm : vl ≤ 60000 := by rw [HVLE.out, List.length_append, List.length_take, ← HSL.out]; omega
              have hltE := HXE.out.jd.jat.lt
              have hltP : ∀ r ∈ qs ++ fs.take p, ∀ x ∈ r, x < 256 := fun r hr => (List.mem_append.1 hr).elim (HJ.out.jd.jat.lt.2 r) (fun h => HFW.out r (List.mem_of_mem_take h))
              obtain ⟨VA2, vc2, hve2, hrsE⟩ := HSTE.out.form
              rw [← HVLE.out] at hve2
              injection hve2 with ev1 ev2 ev3
              subst ev1 ev3
              have HLTP := Lib.hid hltP
              have HRSE := Lib.hid hrsE
              clear hltP hrsE
              by_cases hpi : p = i
              · have HSHX := Lib.hid (shows_any HXE.out.jd.jat bb hltE.1 VA vl vc (qs ++ fs.take p) HVLE.out.symm HRSE.out HLTP.out (by omega) (t : Int) true (by simp [hpi]))
                clear hltE
                go_wp2_with fail
                refine HSHX.out.mono ?_
                rintro e w20 ⟨rfl, hb20⟩
                have HX20 := Lib.hid (HXE.out.below hb20)
                have HST20 := Lib.hid (HSTE.out.below hb20)
                have HB20 := Lib.hid (HBE.out.trans (hb20.mono hzE))
                have hz20 := HB20.out.size
                clear hb20
                have hrows : RdRowsR (fun i => w20.heap.size ≤ i ∧ i < w20.heap.size + 2) ((w20.alloc (.cells #[.int .u8 (ag : Int)] 5)).alloc (.cells #[.slice (some ⟨w20.heap.size, 0, none⟩) 1 1] 34)) (some ⟨w20.heap.size + 1, 0, none⟩) [[ag]] := RdRowsR.lit [ag] 1 (by simp) (by simp [maxLen])
                have HROWS := Lib.hid hrows
                have HFG := Lib.hid (show (flat [[ag]]).length = 7 by rw [flat_one, fmk_length]; rfl)
                clear hrows
                go_wp2_with fail
                refine (append_calm ((HX20.out.alloc _).alloc _) (some ⟨w20.heap.size + 1, 0, none⟩) 1 1 (ns := [[ag]]) rfl HROWS.out (fun i hi => ⟨by simp; omega, HX20.out.out i hi.1⟩) (by intro r hr; simp at hr; subst hr; simp; omega) (by omega) (by intro r hr; simp at hr; subst hr; simp) ?_).mono ?_
                · rw [HFG.out, jf_grow t bb o qs (fs.take i) HJ.out.recs]
                  have h1 := flat_take_len fs i
                  have h2 := HTOT.out
                  have h3 := HFLL.out
                  omega
                rintro e w21 ⟨rfl, S21, T21, hx21, hf21, hw21⟩
                have hz21f := hf21.size
                have hst21 := ((HST20.out.alloc (.cells #[.int .u8 (ag : Int)] 5)).alloc (.cells #[.slice (some ⟨w20.heap.size, 0, none⟩) 1 1] 34)).fr hf21 HOE.out
                have hout21 := out_wide (v := .slice VA vl vc) HOE.out (fun g hg => by have := (HST20.out.lt g hg).2; simp; omega) hw21
                have hb21 : Below w1.heap.size w1 w21 := ((HB20.out.alloc hz20 _).alloc (by simp; omega) _).trans (hf21.below (fun i hi => (HX20.out.jd.low i hi).1) (by simp; omega))
                have hz21 := hb21.size
                have hown21 : w21.ownsRow w1.heap.size 9 1 (.slice VA vl vc) vl ((qs ++ fs.take p).map fun r => Value.string (strN r)) := by have h := hst21; unfold OwnStrs at h; rw [← HVLE.out] at h; exact h
                have d21 := str_of (w21.alloc (.cells #[.int .u8 (ag : Int)] 5)) (some ⟨w21.heap.size, 0, none⟩) 1 1 [ag] (rd_row [ag])
                have HX21 := Lib.hid hx21
                have HST21 := Lib.hid hst21
                have HO21 := Lib.hid hout21
                have HB21 := Lib.hid hb21
                have HOWN21 := Lib.hid hown21
                clear hx21 hf21 hw21 hst21 hout21 hb21 hown21
                go_wp2_with (first
                  | (at_builtin
                     refine wpList_append_one_g _ rfl (.tmp 203) (.tmp 207) 32 rfl 16 w1.heap.size 9 (.string ⟨#[]⟩) Tryz.underlying32 info_str rfl (.slice VA vl vc) vl _ rfl (World.ownsRow.alloc (World.ownsRow.alloc HOWN21.out _) _) ⟨w21.heap.size + 1, 0, none⟩ 1 (.string (strN [ag])) rfl (by simp) rfl (by omega) (by omega) (by simp; omega) (by simp only [maxLen]; omega) ?_
                     intro vF wF hoF hgF)
                  | fail)
                have hxF := ((HX21.out.alloc (.cells #[.int .u8 (ag : Int)] 5)).alloc (.cells #[.string (strN [ag])] 9)).grew hgF HO21.out
                have hbF : Below w1.heap.size w1 wF := hgF.below ((HB21.out.alloc hz21 _).alloc (by simp; omega) _) (by simp; omega) (fun g hg => (HST21.out.lt g hg).1)
                have hstF : OwnStrs wF w1.heap.size vF ((qs ++ fs.take p) ++ [[ag]]) := by
                  refine OwnStrs.push ?_
                  rw [← HVLE.out]
                  exact hoF
                obtain ⟨FA9, fc9, heqF, hrsF⟩ := hstF.form
                obtain ⟨el, hel⟩ : ∃ el, el = ((qs ++ fs.take p) ++ [[ag]]).length := ⟨_, rfl⟩
                have helm : el ≤ 60001 := by rw [hel, List.length_append, ← HVLE.out]; simp; omega
                rw [← hel] at heqF
                subst heqF
                have hltF := hxF.jd.jat.lt
                have HSHF := Lib.hid (shows_any hxF.jd.jat bb hltF.1 FA9 el fc9 ((qs ++ fs.take p) ++ [[ag]]) hel.symm hrsF (by rw [hpi]; exact hltF.2) (by omega) (t : Int) true (by simp [hpi]))
                have HBF := Lib.hid hbF
                have hzF := hbF.size
                clear hoF hgF hxF hbF hstF hrsF hel hltF d21
                refine HSHF.out.mono ?_
                rintro e w22 ⟨rfl, hb22⟩
                have HB22 := Lib.hid (HB1.out.trans ((HBF.out.trans (hb22.mono hzF)).mono hz1))
                clear hb22
                go_wp2
                go_ret
                exact ⟨rfl, HB22.out⟩
              · have hfle : i ≤ fs.length := by rw [HFN.out]; exact hifn
                have hneq : ¬ (qs ++ fs.take i = qs ++ fs.take p) := fun h => hpi ((take_same hp hfle).1 h)
                have hdec : decide (bb = bb ∧ ((t : Nat) : Int) = (t : Int) ∧ qs ++ fs.take i = qs ++ fs.take p) = false := decide_eq_false fun hc => hneq hc.2.2
                have HSHX := Lib.hid (shows_any HXE.out.jd.jat bb hltE.1 VA vl vc (qs ++ fs.take p) HVLE.out.symm HRSE.out HLTP.out (by omega) (t : Int) false hdec)
                clear hdec hneq hfle
                clear hltE
                go_wp2_with fail
                refine HSHX.out.mono ?_
                rintro e w20 ⟨rfl, hb20⟩
                have HX20 := Lib.hid (HXE.out.below hb20)
                have HST20 := Lib.hid (HSTE.out.below hb20)
                have HA20 := Lib.hid (show w20.heap[AB]? = some (.cells #[.int .u8 (op : Int), .slice RA rl RC, .slice BA bl BC] 36) by rw [hb20.block _ ((Array.getElem?_eq_some_iff.1 HAE.out).1)]; exact HAE.out)
                have HB20 := Lib.hid (HBE.out.trans (hb20.mono hzE))
                clear hb20
                go_wp2
                go_roundw
                case rel => exact ⟨p + 1, p, by omega, by omega, by go_num, HX20.out, HST20.out, HOE.out, HNE.out, HA20.out, HB20.out⟩
                case measure => simp [intOf]; omega
            · have hppos : ¬ ((p : Int) ≤ 0) := by omega
              have hpg : (0 : Int) < (p : Int) := by omega
              have hpm : (p : Int) - 1 = ((p - 1 : Nat) : Int) := by omega
              obtain ⟨p1, hp1⟩ : ∃ p1, p1 = p - 1 := ⟨_, rfl⟩
              have hp1s : p = p1 + 1 := by omega
              rw [← hp1] at hpm
              have hpp1 : pp = p1 := by omega
              have HST12' := Lib.hid (show OwnStrs w12 w1.heap.size u14 (qs ++ fs.take p1) by rw [← hpp1]; exact HST12.out)
              have d0 : w12.cell? ⟨AB, 0, none⟩ = some (.int .u8 (op : Int)) := by simp [World.cell?, HA12.out]
              have d1 : w12.cell? ⟨AB, 1, none⟩ = some (.slice RA rl RC) := by simp [World.cell?, HA12.out]
              have d2 : w12.cell? ⟨AB, 2, none⟩ = some (.slice BA bl BC) := by simp [World.cell?, HA12.out]
              have hrr12 : RdRowsR (fun i => i < w.heap.size) w12 RA rows := HRR0.out.same fun i hi => by
                have h2 : Below w.heap.size w w12 := HB1.out.trans (HB12.out.mono hz1)
                rw [h2.block i hi, HWR0.out.block i hi]
              have HRR12 := Lib.hid hrr12
              have HP1S := Lib.hid hp1s
              have hp1l : p1 < fn := by omega
              clear hp1 hrr12 hp1s hpp hpp1
              go_wp2_with fail
              refine (afew_any (R := fun i => i < w.heap.size) w12 (.int .u8 (op : Int)) (.slice BA bl BC) RA rl RC rows HRR12.out (fun i hi => by omega) HRL.out hrc1).mono ?_
              rintro e w13 ⟨v13, rfl, hr13, hb13⟩
              rw [HFS.out] at hr13
              obtain ⟨GA2, gc2, hgv2, _, _, hrd13⟩ := hr13.rdR
              subst hgv2
              rw [HFN.out]
              have hp1' : p1 < fs.length := by rw [HFN.out]; exact hp1l
              obtain ⟨gad, B, c, rfl, hcell, hx1, hx2, hrdB, hx3⟩ := hrd13.at_ hp1'
              obtain ⟨r, hre⟩ : ∃ r, r = fs[p1] := ⟨_, rfl⟩
              have hnext : fs.take p = fs.take p1 ++ [r] := by rw [HP1S.out, hre, List.take_succ_eq_append_getElem hp1']
              rw [← hre] at hcell hrdB
              obtain ⟨z, hz⟩ : ∃ z, z = r.length := ⟨_, rfl⟩
              rw [← hz] at hcell hrdB
              have d := str_of w13 B z c r hrdB
              obtain ⟨ol, hol⟩ : ∃ ol, ol = (qs ++ fs.take p1).length := ⟨_, rfl⟩
              have holm : ol ≤ 60000 := by rw [hol, List.length_append, List.length_take, ← HSL.out]; omega
              have hst13 := HST12'.out.below hb13
              have hown : w13.ownsRow w1.heap.size 9 1 u14 ol ((qs ++ fs.take p1).map fun r => Value.string (strN r)) := by have h := hst13; unfold OwnStrs at h; rw [← hol] at h; exact h
              have hz13f := hb13.size
              have HOWN := Lib.hid hown
              have HST13 := Lib.hid hst13
              have HX13 := Lib.hid (HX12.out.below hb13)
              have HA13 := Lib.hid (show w13.heap[AB]? = some (.cells #[.int .u8 (op : Int), .slice RA rl RC, .slice BA bl BC] 36) by rw [hb13.block _ (by omega)]; exact HA12.out)
              have HB13 := Lib.hid (HB12.out.trans (hb13.mono hz12))
              have hz13 := HB13.out.size
              have HNX := Lib.hid hnext
              have HOL := Lib.hid hol
              have hpgn : (p1 : Int) < (fn : Int) := by omega
              clear hx1 hx2 hx3 hr13 hb13 hrd13 hrdB hre hz hnext hown hst13 hol hp1' d0 d1 d2
              go_wp2_with (first
                | (at_builtin
                   refine wpList_append_one _ rfl (.tmp 179) (.tmp 187) 32 rfl 16 w1.heap.size 9 (.string ⟨#[]⟩) Tryz.underlying32 info_str rfl u14 ol _ rfl (World.ownsRow.alloc HOWN.out _) ⟨w13.heap.size, 0, none⟩ 1 (.string (strN r)) rfl (by simp) rfl (by omega) (by omega) (by simp; omega) (by simp only [maxLen]; omega) ?_
                   intro vE wE hoE hgE)
                | fail)
              have hxE := (HX13.out.alloc (.cells #[.string (strN r)] 9)).grew hgE HOZ.out
              have houtE := hgE.out HOZ.out (fun i hi => by have := (HX13.out.jd.low i hi).2; simp; omega)
              have hneE := hgE.out (U := fun g => g = AB) (fun g hg => HNZ.out g hg) (fun i hi => by simp; omega)
              have hABE : wE.heap[AB]? = some (.cells #[.int .u8 (op : Int), .slice RA rl RC, .slice BA bl BC] 36) := by
                have h1 := (hgE.fr (S := fun g => g ≠ AB) (fun g hg => HNZ.out g hg)).block AB (by simp; omega) (by simp)
                rw [h1, heap_alloc_lt w13 _ AB (by omega)]; exact HA13.out
              have hbE : Below w1.heap.size w1 wE := hgE.below (HB13.out.alloc hz13 _) (by simp; omega) (fun g hg => (HST13.out.lt g hg).1)
              have hstE : OwnStrs wE w1.heap.size vE (qs ++ fs.take p) := by
                rw [HNX.out, ← List.append_assoc]
                refine OwnStrs.push ?_
                rw [← HOL.out]
                exact hoE
              obtain ⟨VA, vc, hve, _⟩ := hstE.form
              obtain ⟨vl, hvle⟩ : ∃ vl, vl = (qs ++ fs.take p).length := ⟨_, rfl⟩
              rw [← hvle] at hve
              subst hve
              have HVLE := Lib.hid hvle
              have HSTE := Lib.hid hstE
              have HXE := Lib.hid hxE
              have HOE := Lib.hid houtE
              have HNE := Lib.hid (show ∀ g, (Value.slice VA vl vc).ownBlock = some g → g ≠ AB from fun g hg e => hneE g hg e)
              have HAE := Lib.hid hABE
              have HBE := Lib.hid hbE
              have hzE := hbE.size
              have hvlm : vl ≤ 60000 := by rw [HVLE.out, List.length_append, List.length_take, ← HSL.out]; omega
              clear hoE hgE hxE houtE hneE hABE hbE hstE hvle d
              have hltE := HXE.out.jd.jat.lt
              have hltP : ∀ r ∈ qs ++ fs.take p, ∀ x ∈ r, x < 256 := fun r hr => (List.mem_append.1 hr).elim (HJ.out.jd.jat.lt.2 r) (fun h => HFW.out r (List.mem_of_mem_take h))
              obtain ⟨VA2, vc2, hve2, hrsE⟩ := HSTE.out.form
              rw [← HVLE.out] at hve2
              injection hve2 with ev1 ev2 ev3
              subst ev1 ev3
              have HLTP := Lib.hid hltP
              have HRSE := Lib.hid hrsE
              clear hltP hrsE
              by_cases hpi : p = i
              · have HSHX := Lib.hid (shows_any HXE.out.jd.jat bb hltE.1 VA vl vc (qs ++ fs.take p) HVLE.out.symm HRSE.out HLTP.out (by omega) (t : Int) true (by simp [hpi]))
                clear hltE
                go_wp2_with fail
                refine HSHX.out.mono ?_
                rintro e w20 ⟨rfl, hb20⟩
                have HX20 := Lib.hid (HXE.out.below hb20)
                have HST20 := Lib.hid (HSTE.out.below hb20)
                have HB20 := Lib.hid (HBE.out.trans (hb20.mono hzE))
                have hz20 := HB20.out.size
                clear hb20
                have hrows : RdRowsR (fun i => w20.heap.size ≤ i ∧ i < w20.heap.size + 2) ((w20.alloc (.cells #[.int .u8 (ag : Int)] 5)).alloc (.cells #[.slice (some ⟨w20.heap.size, 0, none⟩) 1 1] 34)) (some ⟨w20.heap.size + 1, 0, none⟩) [[ag]] := RdRowsR.lit [ag] 1 (by simp) (by simp [maxLen])
                have HROWS := Lib.hid hrows
                have HFG := Lib.hid (show (flat [[ag]]).length = 7 by rw [flat_one, fmk_length]; rfl)
                clear hrows
                go_wp2_with fail
                refine (append_calm ((HX20.out.alloc _).alloc _) (some ⟨w20.heap.size + 1, 0, none⟩) 1 1 (ns := [[ag]]) rfl HROWS.out (fun i hi => ⟨by simp; omega, HX20.out.out i hi.1⟩) (by intro r hr; simp at hr; subst hr; simp; omega) (by omega) (by intro r hr; simp at hr; subst hr; simp) ?_).mono ?_
                · rw [HFG.out, jf_grow t bb o qs (fs.take i) HJ.out.recs]
                  have h1 := flat_take_len fs i
                  have h2 := HTOT.out
                  have h3 := HFLL.out
                  omega
                rintro e w21 ⟨rfl, S21, T21, hx21, hf21, hw21⟩
                have hz21f := hf21.size
                have hst21 := ((HST20.out.alloc (.cells #[.int .u8 (ag : Int)] 5)).alloc (.cells #[.slice (some ⟨w20.heap.size, 0, none⟩) 1 1] 34)).fr hf21 HOE.out
                have hout21 := out_wide (v := .slice VA vl vc) HOE.out (fun g hg => by have := (HST20.out.lt g hg).2; simp; omega) hw21
                have hb21 : Below w1.heap.size w1 w21 := ((HB20.out.alloc hz20 _).alloc (by simp; omega) _).trans (hf21.below (fun i hi => (HX20.out.jd.low i hi).1) (by simp; omega))
                have hz21 := hb21.size
                have hown21 : w21.ownsRow w1.heap.size 9 1 (.slice VA vl vc) vl ((qs ++ fs.take p).map fun r => Value.string (strN r)) := by have h := hst21; unfold OwnStrs at h; rw [← HVLE.out] at h; exact h
                have d21 := str_of (w21.alloc (.cells #[.int .u8 (ag : Int)] 5)) (some ⟨w21.heap.size, 0, none⟩) 1 1 [ag] (rd_row [ag])
                have HX21 := Lib.hid hx21
                have HST21 := Lib.hid hst21
                have HO21 := Lib.hid hout21
                have HB21 := Lib.hid hb21
                have HOWN21 := Lib.hid hown21
                clear hx21 hf21 hw21 hst21 hout21 hb21 hown21
                go_wp2_with (first
                  | (at_builtin
                     refine wpList_append_one_g _ rfl (.tmp 203) (.tmp 207) 32 rfl 16 w1.heap.size 9 (.string ⟨#[]⟩) Tryz.underlying32 info_str rfl (.slice VA vl vc) vl _ rfl (World.ownsRow.alloc (World.ownsRow.alloc HOWN21.out _) _) ⟨w21.heap.size + 1, 0, none⟩ 1 (.string (strN [ag])) rfl (by simp) rfl (by omega) (by omega) (by simp; omega) (by simp only [maxLen]; omega) ?_
                     intro vF wF hoF hgF)
                  | fail)
                have hxF := ((HX21.out.alloc (.cells #[.int .u8 (ag : Int)] 5)).alloc (.cells #[.string (strN [ag])] 9)).grew hgF HO21.out
                have hbF : Below w1.heap.size w1 wF := hgF.below ((HB21.out.alloc hz21 _).alloc (by simp; omega) _) (by simp; omega) (fun g hg => (HST21.out.lt g hg).1)
                have hstF : OwnStrs wF w1.heap.size vF ((qs ++ fs.take p) ++ [[ag]]) := by
                  refine OwnStrs.push ?_
                  rw [← HVLE.out]
                  exact hoF
                obtain ⟨FA9, fc9, heqF, hrsF⟩ := hstF.form
                obtain ⟨el, hel⟩ : ∃ el, el = ((qs ++ fs.take p) ++ [[ag]]).length := ⟨_, rfl⟩
                have helm : el ≤ 60001 := by rw [hel, List.length_append, ← HVLE.out]; simp; omega
                rw [← hel] at heqF
                subst heqF
                have hltF := hxF.jd.jat.lt
                have HSHF := Lib.hid (shows_any hxF.jd.jat bb hltF.1 FA9 el fc9 ((qs ++ fs.take p) ++ [[ag]]) hel.symm hrsF (by rw [hpi]; exact hltF.2) (by omega) (t : Int) true (by simp [hpi]))
                have HBF := Lib.hid hbF
                have hzF := hbF.size
                clear hoF hgF hxF hbF hstF hrsF hel hltF d21
                refine HSHF.out.mono ?_
                rintro e w22 ⟨rfl, hb22⟩
                have HB22 := Lib.hid (HB1.out.trans ((HBF.out.trans (hb22.mono hzF)).mono hz1))
                clear hb22
                go_wp2
                go_ret
                exact ⟨rfl, HB22.out⟩
              · have hfle : i ≤ fs.length := by rw [HFN.out]; exact hifn
                have hneq : ¬ (qs ++ fs.take i = qs ++ fs.take p) := fun h => hpi ((take_same hp hfle).1 h)
                have hdec : decide (bb = bb ∧ ((t : Nat) : Int) = (t : Int) ∧ qs ++ fs.take i = qs ++ fs.take p) = false := decide_eq_false fun hc => hneq hc.2.2
                have HSHX := Lib.hid (shows_any HXE.out.jd.jat bb hltE.1 VA vl vc (qs ++ fs.take p) HVLE.out.symm HRSE.out HLTP.out (by omega) (t : Int) false hdec)
                clear hdec hneq hfle
                clear hltE
                go_wp2_with fail
                refine HSHX.out.mono ?_
                rintro e w20 ⟨rfl, hb20⟩
                have HX20 := Lib.hid (HXE.out.below hb20)
                have HST20 := Lib.hid (HSTE.out.below hb20)
                have HA20 := Lib.hid (show w20.heap[AB]? = some (.cells #[.int .u8 (op : Int), .slice RA rl RC, .slice BA bl BC] 36) by rw [hb20.block _ ((Array.getElem?_eq_some_iff.1 HAE.out).1)]; exact HAE.out)
                have HB20 := Lib.hid (HBE.out.trans (hb20.mono hzE))
                clear hb20
                go_wp2
                go_roundw
                case rel => exact ⟨p + 1, p, by omega, by omega, by go_num, HX20.out, HST20.out, HOE.out, HNE.out, HA20.out, HB20.out⟩
                case measure => simp [intOf]; omega
        · -- it does not stop
          go_wp2_with fail
          refine (append_go_ HJ5.out hh1 hh2 FA fn fc (ns := fs) HFN.out HRD5.out (fun i hi => ⟨hi.2, fun hjj => by have h1 := HJ.out.jd.low i hjj; have := hi.1; omega⟩) HFW.out (by omega) HF16.out (by have h1 := HTOT.out; have h2 := HFLL.out; omega)).mono ?_
          rintro e w6 ⟨rfl, s6, S6, T6, hj6, hf6, hw6⟩
          have hz6 := hf6.size
          have hb6 : Below w1.heap.size w1 w6 := HB5.out.trans (hf6.below (fun i hi => (HJ5.out.jd.low i hi).1) HJ5.out.base_)
          have hst6 := HST5.out.fr hf6 HOUT.out
          have hout6 := out_wide (v := .slice RV sl rc) HOUT.out (fun g hg => by have := (HST5.out.lt g hg).2; omega) hw6
          have ha6 : w6.heap[wr.heap.size]? = some (.cells #[.int .u8 (op : Int), .slice RA rl RC, .slice BA bl BC] 36) := by rw [hf6.block _ (by omega) HNA.out]; exact HA5.out
          have d0 : w6.cell? ⟨wr.heap.size, 0, none⟩ = some (.int .u8 (op : Int)) := by simp [World.cell?, ha6]
          have d1 : w6.cell? ⟨wr.heap.size, 1, none⟩ = some (.slice RA rl RC) := by simp [World.cell?, ha6]
          have d2 : w6.cell? ⟨wr.heap.size, 2, none⟩ = some (.slice BA bl BC) := by simp [World.cell?, ha6]
          have hrr6 : RdRowsR (fun i => i < w.heap.size) w6 RA rows := HRR.out.same fun i hi => by
            have h2 : Below w.heap.size w w6 := HB1.out.trans (hb6.mono hz1)
            rw [h2.block i hi, HWR.out.block i hi]
          have HJ6 := Lib.hid hj6
          have HST6 := Lib.hid hst6
          have HO6 := Lib.hid hout6
          have HB6 := Lib.hid hb6
          have HRR6 := Lib.hid hrr6
          have hz6w := hb6.size
          clear hj6 hf6 hw6 hb6 ha6 hst6 hout6 hrr6 hh1 hh2
          go_wp2_with fail
          refine (afew_any (R := fun i => i < w.heap.size) w6 (.int .u8 (op : Int)) (.slice BA bl BC) RA rl RC rows HRR6.out (fun i hi => by omega) HRL.out hrc1).mono ?_
          rintro e w7 ⟨v7, rfl, hr7, hb7⟩
          rw [HFS.out] at hr7
          obtain ⟨GA, gc, hgv, _, _, hrd7⟩ := hr7.rdR
          subst hgv
          rw [HFN.out]
          have hz7 := hb7.size
          have HJ7 := Lib.hid (HJ6.out.below hb7)
          have HST7 := Lib.hid (HST6.out.below hb7)
          have HB7 := Lib.hid (HB6.out.trans (hb7.mono hz6w))
          have HRD7 := Lib.hid hrd7.lt
          have HNR7 := Lib.hid (show ∀ g, (Value.slice RV sl rc).ownBlock = some g → ¬ ((g < w.heap.size ∨ w6.heap.size ≤ g) ∧ g < w7.heap.size) from fun g hg hu => by have := HST6.out.lt g hg; omega)
          have HTOT2 := Lib.hid (show ptotal (jf t bb (some (qs ++ fs))) ≤ 2024 * (k + 1) + 516 by rw [jf_grow t bb o qs fs HJ.out.recs]; have h1 := HTOT.out; have h2 := HFLL.out; omega)
          clear hb7 hr7 hrd7 d0 d1 d2
          go_wp2
          go_loopw [14, 124] (fun v i wz => ∃ p : Nat, p ≤ fn ∧ i = .int .i64 (p : Int) ∧ Jm wz S6 T6 w1.heap.size jb w1.heap.size 262144 s6 t bb (qs ++ fs) (some (qs ++ fs)) ∧ OwnStrs wz w1.heap.size v (qs ++ fs.take p) ∧ (∀ g, v.ownBlock = some g → ¬ joined S6 T6 g) ∧
              (∀ g, v.ownBlock = some g → ¬ ((g < w.heap.size ∨ w6.heap.size ≤ g) ∧ g < w7.heap.size)) ∧ RdRowsR (fun i => (i < w.heap.size ∨ w6.heap.size ≤ i) ∧ i < w7.heap.size) wz GA fs ∧ Below w1.heap.size w1 wz ∧ w7.heap.size ≤ wz.heap.size) (fun _ i _ => fn - (intOf i).toNat)
          case atStart => exact ⟨0, Nat.zero_le _, rfl, HJ7.out, by simpa using HST7.out, HO6.out, HNR7.out, HRD7.out, HB7.out, Nat.le_refl _⟩
          case round =>
            obtain ⟨p, hp, rfl, hjz, hstz, houtz, hnrz, hrdz, hbz, hzz⟩ := hrel
            by_cases hplt : p < fn
            · have hplt' : p < fs.length := by rw [HFN.out]; exact hplt
              obtain ⟨gad, B, c, rfl, hcell, h1, h2, hrd, hto9⟩ := hrdz.at_ hplt'
              obtain ⟨r, hre⟩ : ∃ r, r = fs[p] := ⟨_, rfl⟩
              have hnext : fs.take (p + 1) = fs.take p ++ [r] := by rw [hre, List.take_succ_eq_append_getElem hplt']
              rw [← hre] at hcell hrd
              obtain ⟨z, hz⟩ : ∃ z, z = r.length := ⟨_, rfl⟩
              rw [← hz] at hcell hrd
              have d := str_of wr B z c r hrd
              obtain ⟨ol, hol⟩ : ∃ ol, ol = (qs ++ fs.take p).length := ⟨_, rfl⟩
              have holm : ol ≤ 60000 := by rw [hol, List.length_append, List.length_take, ← HSL.out]; omega
              have hown : wr.ownsRow w1.heap.size 9 1 u14 ol ((qs ++ fs.take p).map fun r => Value.string (strN r)) := by have h := hstz; unfold OwnStrs at h; rw [← hol] at h; exact h
              have hzz1 := hbz.size
              have HOWN := Lib.hid hown
              have HSTZ := Lib.hid hstz
              have HJZ := Lib.hid hjz
              have HOZ := Lib.hid houtz
              have HNZ := Lib.hid hnrz
              have HRDZ := Lib.hid hrdz
              have HBZ := Lib.hid hbz
              have HNX := Lib.hid hnext
              have HOL := Lib.hid hol
              clear hown hstz hjz houtz hnrz hrdz hbz hnext hol hre hz h1 h2 hrd hto9 hplt'
              go_wp2_with (first
                | (at_builtin
                   refine wpList_append_one _ rfl (.tmp 128) (.tmp 131) 32 rfl 16 w1.heap.size 9 (.string ⟨#[]⟩) Tryz.underlying32 info_str rfl u14 ol _ rfl (World.ownsRow.alloc HOWN.out _) ⟨wr.heap.size, 0, none⟩ 1 (.string (strN r)) rfl (by simp) rfl (by omega) (by omega) (by simp; omega) (by simp only [maxLen]; omega) ?_
                   intro vE wE hoE hgE)
                | fail)
              have hjE := (HJZ.out.alloc (.cells #[.string (strN r)] 9)).grew hgE HOZ.out
              have houtE := hgE.out HOZ.out (fun i hi => by have := (HJZ.out.jd.low i hi).2; simp; omega)
              have hnrE := hgE.out HNZ.out (fun i hi => by have := hi.2; simp; omega)
              have hrdE : RdRowsR (fun i => (i < w.heap.size ∨ w6.heap.size ≤ i) ∧ i < w7.heap.size) wE (some gad) fs := HRDZ.out.same fun i hi => by
                have h1 : i < (wr.alloc (.cells #[.string (strN r)] 9)).heap.size := by have := hi.2; simp; omega
                have h2 := (hgE.fr (S := fun g => ¬ ((g < w.heap.size ∨ w6.heap.size ≤ g) ∧ g < w7.heap.size)) (fun g hg => HNZ.out g hg)).block i h1 (fun hn => hn hi)
                rw [h2, heap_alloc_lt wr _ i (by have := hi.2; omega)]
              have hbE : Below w1.heap.size w1 wE := hgE.below (HBZ.out.alloc hzz1 _) (by simp; omega) (fun g hg => (HSTZ.out.lt g hg).1)
              have hzE : w7.heap.size ≤ wE.heap.size := by have := (hgE.fr (S := fun _ => True) (fun _ _ => trivial)).size; simp at this; omega
              have hstE : OwnStrs wE w1.heap.size vE (qs ++ fs.take (p + 1)) := by
                rw [HNX.out, ← List.append_assoc]
                refine OwnStrs.push ?_
                rw [← HOL.out]
                exact hoE
              exact ⟨⟨p + 1, by omega, by go_num, hjE, hstE, houtE, hnrE, hrdE, hbE, hzE⟩, by simp [intOf]; omega⟩
            · obtain rfl : p = fn := by omega
              rw [List.take_of_length_le (by rw [HFN.out]; omega)] at hstz
              have HJZ := Lib.hid hjz
              have HSTZ := Lib.hid hstz
              have HOZ := Lib.hid houtz
              have HBZ := Lib.hid hbz
              clear hjz hstz houtz hnrz hrdz hbz
              go_wp2
              go_roundw
              case rel => exact ⟨k + 1, t, bb, qs ++ fs, some (qs ++ fs), s6, S6, T6, by omega, by omega, by go_num, rfl, rfl, HJZ.out, HTOT2.out, HSTZ.out, HOZ.out, HBZ.out⟩
              case measure => simp [intOf]; omega
    · obtain rfl : k = n := by omega
      obtain ⟨RV, rc, hrv, hrs⟩ := hst.form
      obtain ⟨sl, hsl⟩ : ∃ sl, sl = qs.length := ⟨_, rfl⟩
      have hql := hj.recLen
      rw [← hsl] at hrv hql
      subst hrv
      have hltE := hj.jd.jat.lt
      have HSHX := Lib.hid (shows_any hj.jd.jat bb hltE.1 RV sl rc qs hsl.symm hrs hltE.2 (by omega) (t : Int) true (by simp))
      have HBEL := Lib.hid hbel
      have hzr := hbel.size
      clear hj hst hout hbel htot hrs hsl hltE
      go_wp2_with fail
      refine HSHX.out.mono ?_
      rintro e w5 ⟨rfl, hb5⟩
      have HB5 := Lib.hid (HB1.out.trans ((HBEL.out.trans (hb5.mono hzr)).mono hz1))
      clear hb5
      go_wp2
      go_ret
      exact ⟨rfl, HB5.out⟩
end Go.Proofs.YtlakkhhibdcjaaaGreatDoor
