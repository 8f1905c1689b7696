/-
  JournalScript walked: what is appended and saved is there, also when it is opened anew.
-/
import Derived.Test.YtlakkhhibdcjaaaJourStrs
import Derived.Test.YtlakkhhibdcjaaaActFew
namespace Go.Proofs.Ytlakkhhibdcjaaa
open Go Go.RowKit Go.Maps
set_option linter.unusedVariables false

theorem add_next (ad : Addr) (n j : Nat) (hj : 0 < j) : ad.add (n + j) = ⟨(ad.add n).block, (ad.add n).off + j, none⟩ := by
  unfold Addr.add
  rw [if_neg (by omega)]
  by_cases hn : n = 0
  · subst hn; simp
  · simp [hn]; omega

theorem RdRowsR.lt {R : Nat → Prop} {w : World} {A : Option Addr} {rs : List (List Nat)} (h : RdRowsR R w A rs) : RdRowsR (fun i => R i ∧ i < w.heap.size) w A rs := fun hn => by
  obtain ⟨ad, e, hR, hc⟩ := h hn
  obtain ⟨u0, hu0, _⟩ := hc 0 rs[0] (List.getElem?_eq_getElem hn)
  have hlt := World.block_lt_of_cell? w _ hu0
  rw [add_block] at hlt
  refine ⟨ad, e, ⟨hR, hlt⟩, fun j r hj => ?_⟩
  obtain ⟨u, hu, ⟨A', c', e', h1, h2, h3⟩, h4⟩ := hc j r hj
  refine ⟨u, hu, ⟨A', c', e', h1, h2, h3⟩, fun B n c ad' he hn' ha => ⟨h4 B n c ad' he hn' ha, ?_⟩⟩
  rw [e'] at he
  injection he with e1 e2 e3
  subst e1 e2
  exact h3.to (c := c) _ _ _ ad' rfl hn' ha
theorem heap_alloc_lt (w : World) (o : Obj) (i : Nat) (h : i < w.heap.size) : (w.alloc o).heap[i]? = w.heap[i]? := by first | exact heap_alloc_old w o i h | exact heap_alloc_old w o h

theorem flat_four {rs : List (List Nat)} (hl : rs.length ≤ 4) (h : ∀ r ∈ rs, r.length ≤ 500) : (flat rs).length ≤ 2024 := by
  have : ∀ qs : List (List Nat), (∀ r ∈ qs, r.length ≤ 500) → (flat qs).length ≤ 506 * qs.length := by
    intro qs
    induction qs with
    | nil => intro _; simp [flat_nil]
    | cons r qs ih =>
      intro h
      have h1 := h r (by simp)
      have h2 := ih fun x hx => h x (by simp [hx])
      rw [flat_cons, List.length_append, fmk_length, List.length_cons]
      omega
  have := this rs h
  omega
theorem jf_grow (t : Nat) (b : List Nat) (o : Option (List (List Nat))) (rs ns : List (List Nat)) (h : o.getD [] = rs) : ptotal (jf t b (some (rs ++ ns))) = ptotal (jf t b o) + (flat ns).length := by
  rw [jf_total, jf_total]
  cases o with
  | none => simp at h; subst h; simp
  | some qs => simp at h; subst h; simp [flat_append]; omega
theorem jf_reset (t : Nat) (b : List Nat) : ptotal (jf (t + 1) b none) = 6 + (snapRec ((t : Int) + 1) b).length := by
  rw [jf_next]; simp [ptotal, fmk_length]

set_option maxRecDepth 100000 in
set_option maxHeartbeats 8000000 in
theorem journalScript_walk (w : World) (a : Option Addr) (la ca : Nat) (ha : IsActs w a la ca) :
    Calls Try.prog 3 #[.slice a la ca] w fun e w' => e = .returned (.bool true) ∧ Below w.heap.size w w' := by
  obtain ⟨vs, hvl, hvs, hlc, hcm⟩ := acts_list ha
  obtain ⟨n, hn⟩ : ∃ n, n = min la 60 := ⟨_, rfl⟩
  have hmin := min2_ok (P := Try.prog) la 60 n (la : Int) 60 rfl rfl hn
  have hf1 := fun W => run_frontA W a la ca n (by omega)
  have hn60 : n ≤ 60 := by omega
  have hnl : n ≤ la := by omega
  have HVS := Lib.hid hvs
  have HVL := Lib.hid hvl
  unfold maxLen at hcm
  clear ha hvs hvl hn
  go_enter Try.func3, Try.ntmps3
  go_wp2_with fail
  refine (awake_ok w).mono ?_
  rintro e w1 ⟨rfl, hb1⟩
  have HB1 := Lib.hid hb1
  have hz1 := hb1.size
  clear hb1
  go_wp2_with fail
  refine (of_q 262144 262144 262144 w1 rfl rfl).mono ?_
  rintro e w2 ⟨rfl, hd2, hb2⟩
  have hz2 := hb2.size
  have HD2 := Lib.hid hd2
  have HB2 := Lib.hid hb2
  clear hd2 hb2 hmin hf1
  go_wp2_with fail
  refine (open_new HD2.out (by omega) hz2).mono ?_
  rintro e w3 ⟨jb3, S3, T3, rfl, hj3, hf3, _, _⟩
  have hb3 : Below w1.heap.size w1 w3 := HB2.out.trans (hf3.below (fun i hi => (HD2.out.low i hi).1) hz2)
  have hz3 := hb3.size
  have hsh := shows_any hj3.jd.jat [] (by simp) none 0 0 [] rfl RdStrs.nil (by simp) (by omega) 0 true (by simp)
  rw [strN_none] at hsh
  have HSH3 := Lib.hid hsh
  have HJ3 := Lib.hid hj3
  have HB3 := Lib.hid hb3
  clear hj3 hf3 hb3 hsh
  go_wp2_with fail
  refine HSH3.out.mono ?_
  rintro e w4 ⟨rfl, hb4⟩
  have HJ4 := Lib.hid (HJ3.out.below hb4)
  have HB4 := Lib.hid (HB3.out.trans (hb4.mono hz3))
  clear hb4
  go_wp2
  go_loopw [4, 5, 6, 7, 8, 39] (fun s4 s5 s6 s7 v i wr => ∃ (k t : Nat) (bb : List Nat) (qs : List (List Nat)) (o : Option (List (List Nat))) (jb : Nat) (S T : Nat → Prop), k ≤ n ∧ t ≤ k ∧ i = .int .i64 (k : Int) ∧ s4 = .pointer (some ⟨jb, 0, none⟩) ∧ s5 = .nilIface ∧ s6 = .string (strN bb) ∧ s7 = .int .i64 (t : Int) ∧
      Jn wr S T w1.heap.size jb w1.heap.size 262144 t bb qs o ∧ ptotal (jf t bb o) ≤ 2024 * k + 516 ∧ OwnStrs wr w1.heap.size v qs ∧ (∀ g, v.ownBlock = some g → ¬ joined S T g) ∧ Below w1.heap.size w1 wr) (fun _ _ _ _ _ i _ => n - (intOf i).toNat)
  case atStart => exact ⟨0, 0, [], [], none, jb3, S3, T3, Nat.zero_le _, Nat.le_refl _, rfl, rfl, rfl, rfl, rfl, HJ4.out, by simp [jf, snapF, recF, ptotal], OwnStrs.nil, fun g h => (by cases h), HB4.out⟩
  case round =>
    obtain ⟨k, t, bb, qs, o, jb, S, T, hk, htk, rfl, rfl, rfl, rfl, rfl, hj, htot, hst, hout, hbel⟩ := hrel
    by_cases hlt : k < n
    · have hlt' : k < vs.length := by rw [HVL.out]; omega
      obtain ⟨ad, rfl, hacts⟩ := HVS.out (by omega)
      obtain ⟨RA, RC, BA, BC, hat0⟩ := hacts k vs[k] (List.getElem?_eq_getElem hlt')
      have hwr : Below w.heap.size w wr := HB1.out.trans (hbel.mono hz1)
      have hat := hat0.below hwr
      obtain ⟨x, hx⟩ : ∃ x, x = vs[k] := ⟨_, rfl⟩
      rw [← hx] at hat hat0
      have hrowR := hat0.rows.toR
      obtain ⟨op, rows, byts⟩ := x
      obtain ⟨c0, c1, c2, hrows, hbytes, hrlt, hblt, hop, hrc, hbc⟩ := hat
      simp only at c0 c1 c2 hrows hbytes hrlt hblt hop hrc hbc hrowR
      have hbto : RowTo (fun i => i < w.heap.size) (.slice BA byts.length BC) := hat0.bytes.to
      have hrr : RdRowsR (fun i => i < w.heap.size) wr RA rows := hrowR.same fun i hi => hwr.block i hi
      obtain ⟨rl, hrl⟩ : ∃ rl, rows.length = rl := ⟨_, rfl⟩
      obtain ⟨bl, hbl⟩ : ∃ bl, byts.length = bl := ⟨_, rfl⟩
      rw [hrl] at c1 hrc
      rw [add_next ad (k * 3) 1 (by omega)] at c1
      rw [add_next ad (k * 3) 2 (by omega)] at c2
      rw [hbl] at c2 hbytes hbc hbto
      obtain ⟨RV, rc, hrv, hrs⟩ := hst.form
      obtain ⟨sl, hsl⟩ : ∃ sl, sl = qs.length := ⟨_, rfl⟩
      rw [← hsl] at hrv
      have hql := hj.recLen
      rw [← hsl] at hql
      subst hrv
      have hzr := hbel.size
      have hwz := hwr.size
      have hwB := HB1.out.size
      have HJ := Lib.hid hj
      have HST := Lib.hid hst
      have HOUT := Lib.hid hout
      have HBEL := Lib.hid hbel
      have HWR := Lib.hid hwr
      have HRR := Lib.hid hrr
      have HBY := Lib.hid hbytes
      have HBTO := Lib.hid hbto
      have HRLT := Lib.hid hrlt
      have HBLT := Lib.hid hblt
      have HRL := Lib.hid hrl
      have HBL := Lib.hid hbl
      have HRC := Lib.hid hrc
      have HBC := Lib.hid hbc
      have HSL := Lib.hid hsl
      have HTOT := Lib.hid htot
      have hrc1 := hrc.1
      have hbc1 := hbc.1
      clear hj hst hout hbel hwr hrr hbytes hbto hrlt hblt hrl hbl hrc hbc hsl htot hrs hrows hat0 hacts hx hrowR hlt'
      -- the Act of this round
      have hAblk := heap_alloc_new wr (.cells #[.int .u8 (op : Int), .slice RA rl RC, .slice BA bl BC] 36)
      have hzA : (wr.alloc (.cells #[.int .u8 (op : Int), .slice RA rl RC, .slice BA bl BC] 36)).heap.size = wr.heap.size + 1 := by simp
      have HJA := Lib.hid (HJ.out.alloc (.cells #[.int .u8 (op : Int), .slice RA rl RC, .slice BA bl BC] 36))
      have HSTA := Lib.hid (HST.out.alloc (.cells #[.int .u8 (op : Int), .slice RA rl RC, .slice BA bl BC] 36))
      have HBA := Lib.hid (HBEL.out.alloc hzr (.cells #[.int .u8 (op : Int), .slice RA rl RC, .slice BA bl BC] 36))
      have HABLK := Lib.hid hAblk
      have HNA := Lib.hid (show ¬ joined S T wr.heap.size from HJ.out.out _ (Nat.le_refl _))
      have HWA := Lib.hid (HWR.out.alloc hwz (.cells #[.int .u8 (op : Int), .slice RA rl RC, .slice BA bl BC] 36))
      clear hAblk
      obtain ⟨q, hq⟩ : ∃ q, q = op % 4 := ⟨_, rfl⟩
      have hq4 : (op : Int) % 4 = (q : Int) := by omega
      have hqlt : q < 4 := by omega
      clear hq
      by_cases hq0 : q = 0
      · have t0 := eqT (show (q : Int) = 0 by omega)
        obtain ⟨m, hm⟩ : ∃ m, m = min bl 500 := ⟨_, rfl⟩
        obtain ⟨ys, hys⟩ : ∃ ys, ys = byts.take m := ⟨_, rfl⟩
        have hyl : ys.length = m := by rw [hys, List.length_take, HBL.out]; omega
        have hyw : ∀ x ∈ ys, x < 256 := fun x hx => HBLT.out x (by rw [hys] at hx; exact List.mem_of_mem_take hx)
        have hyr : Rd .u8 wr BA m (ints ys) := by have h := HBY.out.front (j := m) (by omega); rw [ints_take, ← hys] at h; exact h
        have hyt : RowTo (fun i => i < w.heap.size) (.slice BA m BC) := fun A' n' c' ad' e hn' ha' => by injection e with e1 e2 e3; subst e1; exact HBTO.out _ _ _ ad' rfl (by omega) ha'
        have hm5 : m ≤ 500 := by omega
        have hsl := snapRec_len ((t : Int) + 1) ys (by omega) (by omega)
        rw [hyl] at hsl
        have HM := Lib.hid hm
        have HYL := Lib.hid hyl
        have HYW := Lib.hid hyw
        have HYR := Lib.hid hyr
        have HYT := Lib.hid hyt
        clear hm hys hyl hyw hyr hyt
        go_wp2_with fail
        refine (bytes_any _ (.int .u8 (op : Int)) (.slice RA rl RC) BA bl BC m HM.out hbc1).mono ?_
        rintro e w5 ⟨rfl, hb5⟩
        have hz5 := hb5.size
        have HJ5 := Lib.hid (HJA.out.below hb5)
        have HB5 := Lib.hid (HBA.out.trans (hb5.mono (by omega)))
        have HR5 := Lib.hid ((HYR.out.alloc (.cells #[.int .u8 (op : Int), .slice RA rl RC, .slice BA bl BC] 36)).below hb5)
        have HA5 := Lib.hid (show w5.heap[wr.heap.size]? = some (.cells #[.int .u8 (op : Int), .slice RA rl RC, .slice BA bl BC] 36) by rw [hb5.block _ (by omega)]; exact HABLK.out)
        clear hb5
        go_wp2_with fail
        refine (save_calm HJ5.out (by omega) BA m BC HR5.out HYT.out (fun i hi => ⟨by omega, fun hjj => by have := (HJ5.out.jd.low i hjj).1; omega⟩) HYW.out (by omega) (by omega) (by have := HTOT.out; omega)).mono ?_
        rintro e w6 ⟨rfl, S6, T6, hj6, hf6, hw6⟩
        have hz6 := hf6.size
        have hb6 : Below w1.heap.size w1 w6 := HB5.out.trans (hf6.below (fun i hi => (HJ5.out.jd.low i hi).1) HJ5.out.base_)
        have ha6 : w6.heap[wr.heap.size]? = some (.cells #[.int .u8 (op : Int), .slice RA rl RC, .slice BA bl BC] 36) := by rw [hf6.block _ (by omega) HNA.out]; exact HA5.out
        have d0 : w6.cell? ⟨wr.heap.size, 0, none⟩ = some (.int .u8 (op : Int)) := by simp [World.cell?, ha6]
        have d1 : w6.cell? ⟨wr.heap.size, 1, none⟩ = some (.slice RA rl RC) := by simp [World.cell?, ha6]
        have d2 : w6.cell? ⟨wr.heap.size, 2, none⟩ = some (.slice BA bl BC) := by simp [World.cell?, ha6]
        have HJ6 := Lib.hid hj6
        have HB6 := Lib.hid hb6
        have hz6w := hb6.size
        clear hj6 hf6 hw6 hb6 ha6
        go_wp2_with fail
        refine (bytes_any w6 (.int .u8 (op : Int)) (.slice RA rl RC) BA bl BC m HM.out hbc1).mono ?_
        rintro e w7 ⟨rfl, hb7⟩
        have hj7 := HJ6.out.below hb7
        have HJ7 := Lib.hid hj7
        have HB7 := Lib.hid (HB6.out.trans (hb7.mono hz6w))
        have hz7 := HB7.out.size
        have hy0 : Rd .u8 w7 BA m (ints ys) := (HYR.out.same fun ad' ha' hn' => by
          have h1 := HYT.out BA m BC ad' rfl hn' ha'
          have h2 : Below w.heap.size w w7 := HB1.out.trans (HB7.out.mono hz1)
          rw [h2.block _ h1, HWR.out.block _ h1])
        have d3 := str_of w7 BA m BC ys hy0
        have e1 : (((t + 1 : Nat)) : Int) = (t : Int) + 1 := by omega
        have HSHX := Lib.hid (shows_any hj7.jd.jat ys HYW.out none 0 0 [] rfl RdStrs.nil (by simp) (by omega) ((t : Int) + 1) true (by simp))
        have HTOT2 := Lib.hid (show ptotal (jf (t + 1) ys none) ≤ 2024 * (k + 1) + 516 by rw [jf_reset]; omega)
        clear hb7 hj7 hy0 d0 d1 d2 e1
        go_wp2_with fail
        refine HSHX.out.mono ?_
        rintro e w8 ⟨rfl, hb8⟩
        have HJ8 := Lib.hid (HJ7.out.below hb8)
        have HB8 := Lib.hid (HB7.out.trans (hb8.mono hz7))
        clear hb8 d3
        go_wp2_with fail
        refine (broken_any HJ8.out.jd.jat).mono ?_
        rintro e w9 ⟨rfl, rfl⟩
        go_wp2
        go_roundw
        case rel => exact ⟨k + 1, t + 1, ys, [], none, jb, S6, T6, by omega, by omega, by go_num, rfl, rfl, rfl, by go_num, HJ8.out, HTOT2.out, OwnStrs.nil, fun g h => (by cases h), HB8.out⟩
        case measure => simp [intOf]; omega
      · have t0 := eqF (show (q : Int) ≠ 0 by omega)
        by_cases hq1 : q = 1
        · have t1 := eqT (show (q : Int) = 1 by omega)
          go_wp2_with fail
          refine (restart_q HJA.out.jd.disk (op : Int) (by omega) (Nat.lt_of_le_of_lt (jf_len _ _ _) (by omega)) (fun p hp => ?_) HJA.out.base_).mono ?_
          · have h1 := jf_mem _ _ _ p hp
            have h2 := HJ.out.fits
            refine ⟨by omega, ?_⟩
            rcases h1.2.2 with e | e
            · rw [e]; exact wf0
            · rw [e]; exact turn_wf t (by omega)
          rintro e w5 ⟨rfl, S5, hd5, hf5, hw5⟩
          rw [jf_rst] at hd5
          have hst5 := HSTA.out.fr hf5 (fun g hg hS => HOUT.out g hg (.inl hS))
          have hns5 : ∀ g, (Value.slice RV sl rc).ownBlock = some g → ¬ S5 g := out_wide (fun g hg hS => HOUT.out g hg (.inl hS)) (fun g hg => (HSTA.out.lt g hg).2) hw5
          have hb5 : Below w1.heap.size w1 w5 := HBA.out.trans (hf5.below (fun i hi => (HJ.out.jd.disk.low i hi).1) HJA.out.base_)
          have hz5 := hb5.size
          have HD5 := Lib.hid (show DiskQ w5 S5 w1.heap.size w1.heap.size 262144 (jf t bb o) calm from hd5)
          have HST5 := Lib.hid hst5
          have HNS5 := Lib.hid hns5
          have HB5 := Lib.hid hb5
          clear hd5 hf5 hw5 hst5 hns5 hb5
          go_wp2_with fail
          refine (open_calm HD5.out HJ.out.recs HJ.out.zero HJ.out.small HJ.out.snap HJ.out.short HJ.out.fits HJ.out.room_ hz5).mono ?_
          rintro e w6 ⟨jb6, S6, T6, rfl, hj6, hf6, hw6, hT6⟩
          have hst6 := HST5.out.fr hf6 HNS5.out
          have hout6 : ∀ g, (Value.slice RV sl rc).ownBlock = some g → ¬ joined S6 T6 g := fun g hg hu => hu.elim (fun h => (hw6 g h).elim (HNS5.out g hg) (fun h' => by have := (HST5.out.lt g hg).2; omega)) (fun h => by have h1 := hT6 g h; have := (HST5.out.lt g hg).2; omega)
          have hb6 : Below w1.heap.size w1 w6 := HB5.out.trans (hf6.below (fun i hi => (HD5.out.low i hi).1) hz5)
          obtain ⟨A6, c6, heq6, hrs6⟩ := hst6.form
          rw [← HSL.out] at heq6
          injection heq6 with e61 e62 e63
          subst e61 e63
          have hltE := hj6.jd.jat.lt
          have HJ6 := Lib.hid hj6
          have HST6 := Lib.hid hst6
          have HO6 := Lib.hid hout6
          have HB6 := Lib.hid hb6
          have hz6 := hb6.size
          have HSHX := Lib.hid (shows_any hj6.jd.jat bb hltE.1 RV sl rc qs HSL.out.symm hrs6 hltE.2 (by omega) (t : Int) true (by simp))
          clear hj6 hf6 hw6 hT6 hst6 hout6 hb6 hrs6 hltE
          go_wp2_with fail
          refine HSHX.out.mono ?_
          rintro e w8 ⟨rfl, hb8⟩
          have HJ8 := Lib.hid (HJ6.out.below hb8)
          have HST8 := Lib.hid (HST6.out.below hb8)
          have HB8 := Lib.hid (HB6.out.trans (hb8.mono hz6))
          clear hb8
          go_wp2_with fail
          refine (broken_any HJ8.out.jd.jat).mono ?_
          rintro e w9 ⟨rfl, rfl⟩
          go_wp2
          go_roundw
          case rel => exact ⟨k + 1, t, bb, qs, o, jb6, S6, T6, by omega, by omega, by go_num, rfl, rfl, rfl, rfl, HJ8.out, by have := HTOT.out; omega, HST8.out, HO6.out, HB8.out⟩
          case measure => simp [intOf]; omega
        · have t1 := eqF (show (q : Int) ≠ 1 by omega)
          obtain ⟨fs, hfs⟩ : ∃ fs, few (rows.take 4) = fs := ⟨_, rfl⟩
          have hf4 : fs.length ≤ 4 := by rw [← hfs]; simp [few]; omega
          have hfr : ∀ r ∈ fs, r.length ≤ 500 := by rw [← hfs]; exact few_row _
          have hfl := flat_four hf4 hfr
          have hfw : ∀ r ∈ fs, ∀ x ∈ r, x < 256 := by rw [← hfs]; exact few_lt fun r hr => HRLT.out r (List.mem_of_mem_take hr)
          obtain ⟨fn, hfn⟩ : ∃ fn, fs.length = fn := ⟨_, rfl⟩
          rw [hfn] at hf4
          have HFS := Lib.hid hfs
          have HFW := Lib.hid hfw
          have HF16 := Lib.hid (show ∀ r ∈ fs, r.length ≤ 16384 from fun r hr => Nat.le_trans (hfr r hr) (by omega))
          have HFN := Lib.hid hfn
          have HFLL := Lib.hid hfl
          have HRRA := Lib.hid (HRR.out.below ((Below.refl _ wr).alloc (Nat.le_refl _) (.cells #[.int .u8 (op : Int), .slice RA rl RC, .slice BA bl BC] 36)) (fun i hi => by omega))
          clear hfs hfr hfl hfw hfn
          go_wp2_with fail
          refine (afew_any (R := fun i => i < w.heap.size) _ (.int .u8 (op : Int)) (.slice BA bl BC) RA rl RC rows HRRA.out (fun i hi => by omega) HRL.out hrc1).mono ?_
          rintro e w5 ⟨v5, rfl, hr5, hb5⟩
          rw [HFS.out] at hr5
          obtain ⟨FA, fc, hfv, _, _, hrd5⟩ := hr5.rdR
          subst hfv
          rw [HFN.out]
          have hz5 := hb5.size
          have HJ5 := Lib.hid (HJA.out.below hb5)
          have HST5 := Lib.hid (HSTA.out.below hb5)
          have HB5 := Lib.hid (HBA.out.trans (hb5.mono (by omega)))
          have HA5 := Lib.hid (show w5.heap[wr.heap.size]? = some (.cells #[.int .u8 (op : Int), .slice RA rl RC, .slice BA bl BC] 36) by rw [hb5.block _ (by omega)]; exact HABLK.out)
          have HRD5 := Lib.hid hrd5.lt
          clear hb5 hr5 hrd5
          go_wp2_with fail
          refine (append_calm HJ5.out FA fn fc (ns := fs) HFN.out HRD5.out (fun i hi => ⟨hi.2, fun hjj => by have h1 := HJ.out.jd.low i hjj; have := hi.1; omega⟩) HFW.out (by omega) HF16.out (by have h1 := HTOT.out; have h2 := HFLL.out; omega)).mono ?_
          rintro e w6 ⟨rfl, S6, T6, hj6, hf6, hw6⟩
          have hz6 := hf6.size
          have hb6 : Below w1.heap.size w1 w6 := HB5.out.trans (hf6.below (fun i hi => (HJ5.out.jd.low i hi).1) HJ5.out.base_)
          have hst6 := HST5.out.fr hf6 HOUT.out
          have hout6 := out_wide (v := .slice RV sl rc) HOUT.out (fun g hg => by have := (HST5.out.lt g hg).2; omega) hw6
          have ha6 : w6.heap[wr.heap.size]? = some (.cells #[.int .u8 (op : Int), .slice RA rl RC, .slice BA bl BC] 36) := by rw [hf6.block _ (by omega) HNA.out]; exact HA5.out
          have d0 : w6.cell? ⟨wr.heap.size, 0, none⟩ = some (.int .u8 (op : Int)) := by simp [World.cell?, ha6]
          have d1 : w6.cell? ⟨wr.heap.size, 1, none⟩ = some (.slice RA rl RC) := by simp [World.cell?, ha6]
          have d2 : w6.cell? ⟨wr.heap.size, 2, none⟩ = some (.slice BA bl BC) := by simp [World.cell?, ha6]
          have hrr6 : RdRowsR (fun i => i < w.heap.size) w6 RA rows := HRR.out.same fun i hi => by
            have h2 : Below w.heap.size w w6 := HB1.out.trans (hb6.mono hz1)
            rw [h2.block i hi, HWR.out.block i hi]
          have HJ6 := Lib.hid hj6
          have HST6 := Lib.hid hst6
          have HO6 := Lib.hid hout6
          have HB6 := Lib.hid hb6
          have HRR6 := Lib.hid hrr6
          have hz6w := hb6.size
          clear hj6 hf6 hw6 hb6 ha6 hst6 hout6 hrr6
          go_wp2_with fail
          refine (afew_any (R := fun i => i < w.heap.size) w6 (.int .u8 (op : Int)) (.slice BA bl BC) RA rl RC rows HRR6.out (fun i hi => by omega) HRL.out hrc1).mono ?_
          rintro e w7 ⟨v7, rfl, hr7, hb7⟩
          rw [HFS.out] at hr7
          obtain ⟨GA, gc, hgv, _, _, hrd7⟩ := hr7.rdR
          subst hgv
          rw [HFN.out]
          have hz7 := hb7.size
          have HJ7 := Lib.hid (HJ6.out.below hb7)
          have HST7 := Lib.hid (HST6.out.below hb7)
          have HB7 := Lib.hid (HB6.out.trans (hb7.mono hz6w))
          have HRD7 := Lib.hid hrd7.lt
          have HNR7 := Lib.hid (show ∀ g, (Value.slice RV sl rc).ownBlock = some g → ¬ ((g < w.heap.size ∨ w6.heap.size ≤ g) ∧ g < w7.heap.size) from fun g hg hu => by have := HST6.out.lt g hg; omega)
          clear hb7 hr7 hrd7 d0 d1 d2
          go_wp2
          go_loopw [8, 54] (fun v i wz => ∃ p : Nat, p ≤ fn ∧ i = .int .i64 (p : Int) ∧ Jn wz S6 T6 w1.heap.size jb w1.heap.size 262144 t bb (qs ++ fs) (some (qs ++ fs)) ∧ OwnStrs wz w1.heap.size v (qs ++ fs.take p) ∧ (∀ g, v.ownBlock = some g → ¬ joined S6 T6 g) ∧
              (∀ g, v.ownBlock = some g → ¬ ((g < w.heap.size ∨ w6.heap.size ≤ g) ∧ g < w7.heap.size)) ∧ RdRowsR (fun i => (i < w.heap.size ∨ w6.heap.size ≤ i) ∧ i < w7.heap.size) wz GA fs ∧ Below w1.heap.size w1 wz ∧ w7.heap.size ≤ wz.heap.size) (fun _ i _ => fn - (intOf i).toNat)
          case atStart => exact ⟨0, Nat.zero_le _, rfl, HJ7.out, by simpa using HST7.out, HO6.out, HNR7.out, HRD7.out, HB7.out, Nat.le_refl _⟩
          case round =>
            obtain ⟨p, hp, rfl, hjz, hstz, houtz, hnrz, hrdz, hbz, hzz⟩ := hrel
            by_cases hplt : p < fn
            · have hplt' : p < fs.length := by rw [HFN.out]; exact hplt
              obtain ⟨gad, B, c, rfl, hcell, h1, h2, hrd, hto9⟩ := hrdz.at_ hplt'
              obtain ⟨r, hre⟩ : ∃ r, r = fs[p] := ⟨_, rfl⟩
              have hnext : fs.take (p + 1) = fs.take p ++ [r] := by rw [hre, List.take_succ_eq_append_getElem hplt']
              rw [← hre] at hcell hrd
              obtain ⟨z, hz⟩ : ∃ z, z = r.length := ⟨_, rfl⟩
              rw [← hz] at hcell hrd
              have d := str_of wr B z c r hrd
              obtain ⟨ol, hol⟩ : ∃ ol, ol = (qs ++ fs.take p).length := ⟨_, rfl⟩
              have holm : ol ≤ 60000 := by rw [hol, List.length_append, List.length_take, ← HSL.out]; omega
              have hown : wr.ownsRow w1.heap.size 9 1 u8 ol ((qs ++ fs.take p).map fun r => Value.string (strN r)) := by have h := hstz; unfold OwnStrs at h; rw [← hol] at h; exact h
              have hzz1 := hbz.size
              have HOWN := Lib.hid hown
              have HSTZ := Lib.hid hstz
              have HJZ := Lib.hid hjz
              have HOZ := Lib.hid houtz
              have HNZ := Lib.hid hnrz
              have HRDZ := Lib.hid hrdz
              have HBZ := Lib.hid hbz
              have HNX := Lib.hid hnext
              have HOL := Lib.hid hol
              clear hown hstz hjz houtz hnrz hrdz hbz hnext hol hre hz h1 h2 hrd hto9 hplt'
              go_wp2_with (first
                | (at_builtin
                   refine wpList_append_one _ rfl (.tmp 58) (.tmp 61) 32 rfl 16 w1.heap.size 9 (.string ⟨#[]⟩) Try.underlying32 info_str rfl u8 ol _ rfl (World.ownsRow.alloc HOWN.out _) ⟨wr.heap.size, 0, none⟩ 1 (.string (strN r)) rfl (by simp) rfl (by omega) (by omega) (by simp; omega) (by simp only [maxLen]; omega) ?_
                   intro vE wE hoE hgE)
                | fail)
              have hjE := (HJZ.out.alloc (.cells #[.string (strN r)] 9)).grew hgE HOZ.out
              have houtE := hgE.out HOZ.out (fun i hi => by have := (HJZ.out.jd.low i hi).2; simp; omega)
              have hnrE := hgE.out HNZ.out (fun i hi => by have := hi.2; simp; omega)
              have hrdE : RdRowsR (fun i => (i < w.heap.size ∨ w6.heap.size ≤ i) ∧ i < w7.heap.size) wE (some gad) fs := HRDZ.out.same fun i hi => by
                have h1 : i < (wr.alloc (.cells #[.string (strN r)] 9)).heap.size := by have := hi.2; simp; omega
                have h2 := (hgE.fr (S := fun g => ¬ ((g < w.heap.size ∨ w6.heap.size ≤ g) ∧ g < w7.heap.size)) (fun g hg => HNZ.out g hg)).block i h1 (fun hn => hn hi)
                rw [h2, heap_alloc_lt wr _ i (by have := hi.2; omega)]
              have hbE : Below w1.heap.size w1 wE := hgE.below (HBZ.out.alloc hzz1 _) (by simp; omega) (fun g hg => (HSTZ.out.lt g hg).1)
              have hzE : w7.heap.size ≤ wE.heap.size := by have := (hgE.fr (S := fun _ => True) (fun _ _ => trivial)).size; simp at this; omega
              have hstE : OwnStrs wE w1.heap.size vE (qs ++ fs.take (p + 1)) := by
                rw [HNX.out, ← List.append_assoc]
                refine OwnStrs.push ?_
                rw [← HOL.out]
                exact hoE
              exact ⟨⟨p + 1, by omega, by go_num, hjE, hstE, houtE, hnrE, hrdE, hbE, hzE⟩, by simp [intOf]; omega⟩
            · obtain rfl : p = fn := by omega
              rw [List.take_of_length_le (by rw [HFN.out]; omega)] at hstz
              obtain ⟨EA, ec, heq, hrsE⟩ := hstz.form
              obtain ⟨el, hel⟩ : ∃ el, el = (qs ++ fs).length := ⟨_, rfl⟩
              have helm : el ≤ 60000 := by rw [hel, List.length_append, HFN.out, ← HSL.out]; omega
              rw [← hel] at heq
              subst heq
              have hltE := hjz.jd.jat.lt
              have hzz1 := hbz.size
              have HSHX := Lib.hid (shows_any hjz.jd.jat bb hltE.1 EA el ec (qs ++ fs) hel.symm hrsE hltE.2 (by omega) (t : Int) true (by simp))
              have HJZ := Lib.hid hjz
              have HSTZ := Lib.hid hstz
              have HOZ := Lib.hid houtz
              have HBZ := Lib.hid hbz
              have HTOT2 := Lib.hid (show ptotal (jf t bb (some (qs ++ fs))) ≤ 2024 * (k + 1) + 516 by rw [jf_grow t bb o qs fs HJ.out.recs]; have h1 := HTOT.out; have h2 := HFLL.out; omega)
              clear hjz hstz houtz hnrz hrdz hbz hrsE hel hltE
              go_wp2_with fail
              refine HSHX.out.mono ?_
              rintro e wx ⟨rfl, hbx⟩
              have HJX := Lib.hid (HJZ.out.below hbx)
              have HSTX := Lib.hid (HSTZ.out.below hbx)
              have HBX := Lib.hid (HBZ.out.trans (hbx.mono hzz1))
              clear hbx
              go_wp2_with fail
              refine (broken_any HJX.out.jd.jat).mono ?_
              rintro e wy ⟨rfl, rfl⟩
              go_wp2
              go_roundw
              case rel => exact ⟨k + 1, t, bb, qs ++ fs, some (qs ++ fs), jb, S6, T6, by omega, by omega, by go_num, rfl, rfl, rfl, rfl, HJX.out, HTOT2.out, HSTX.out, HOZ.out, HBX.out⟩
              case measure => simp [intOf]; omega
    · obtain rfl : k = n := by omega
      have HBEL := Lib.hid (HB1.out.trans (hbel.mono hz1))
      clear hj hst hout hbel htot
      go_wp2
      go_ret
      exact ⟨rfl, HBEL.out⟩
end Go.Proofs.Ytlakkhhibdcjaaa
