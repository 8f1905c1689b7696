/-
  JournalTorn walked: what is torn at the end is cut off, and what is appended then is there.
-/
import Derived.Test.YtlakkhhibdcjaaaGuarded
import Derived.Test.YtlakkhhibdcjaaaFrame
import Derived.Test.YtlakkhhibdcjaaaLow
import Derived.Deep.RegionWith
import Derived.Deep.CutRange
namespace Go.Proofs.Ytlakkhhibdcjaaa
open Go Go.RowKit Go.Maps
set_option linter.unusedVariables false

theorem flat_few {rs : List (List Nat)} (hl : rs.length ≤ 12) (h : ∀ r ∈ rs, r.length ≤ 500) : (flat rs).length ≤ 506 * rs.length := by
  clear hl
  induction rs with
  | nil => simp [flat_nil]
  | cons r rs ih =>
    have h1 := h r (by simp)
    have h2 := ih fun x hx => h x (by simp [hx])
    rw [flat_cons, List.length_append, fmk_length, List.length_cons]
    omega

set_option maxRecDepth 100000 in
set_option maxHeartbeats 8000000 in
theorem journalTorn_walk (w : World) (a : Option Addr) (la ca : Nat) (ha : IsRows .u8 w a la ca) (b : Option Addr) (lb cb : Nat) (zb : List Int) (hb : IsRow .u8 w b lb cb zb) (q : Option Addr) (lq cq : Nat) (zq : List Int) (hq : IsRow .u8 w q lq cq zq) :
    Calls Try.prog 4 #[.slice a la ca, .slice b lb cb, .slice q lq cq] w fun e w' => e = .returned (.bool true) ∧ Below w.heap.size w w' := by
  obtain ⟨rs0, hrl0, hrd0, hrw0, hnc0, hcm0⟩ := rows_bytes ha
  obtain ⟨ys0, hrb0, hyl0, hyw0, hnb, hcb⟩ := row_bytes hb
  obtain ⟨qs0, hrq0, hql0, hqw0, hnq, hcq⟩ := row_bytes hq
  obtain ⟨m, hm⟩ : ∃ m, m = min lb 500 := ⟨_, rfl⟩
  obtain ⟨m2, hm2⟩ : ∃ m2, m2 = min lq 500 := ⟨_, rfl⟩
  have hmin := min2_ok (P := Try.prog) lb 500 m (lb : Int) 500 rfl rfl hm
  have hmin2 := min2_ok (P := Try.prog) lq 500 m2 (lq : Int) 500 rfl rfl hm2
  have hf1 := fun W => run_front W b lb cb m (by omega)
  have hf2 := fun W => run_front W q lq cq m2 (by omega)
  have hrb := hrb0.front (j := m) (by omega)
  have hrq := hrq0.front (j := m2) (by omega)
  rw [ints_take] at hrb hrq
  obtain ⟨ys, hys⟩ : ∃ ys, ys = ys0.take m := ⟨_, rfl⟩
  obtain ⟨ms, hms⟩ : ∃ ms, ms = qs0.take m2 := ⟨_, rfl⟩
  rw [← hys] at hrb
  rw [← hms] at hrq
  have hyw : ∀ x ∈ ys, x < 256 := fun x hx => hyw0 x (by rw [hys] at hx; exact List.mem_of_mem_take hx)
  have hmw : ∀ x ∈ ms, x < 256 := fun x hx => hqw0 x (by rw [hms] at hx; exact List.mem_of_mem_take hx)
  have hyl : ys.length = m := by rw [hys, List.length_take]; omega
  have hml : ms.length = m2 := by rw [hms, List.length_take]; omega
  have hm5 : m ≤ 500 := by omega
  have hm25 : m2 ≤ 500 := by omega
  have hmc : m ≤ cb := by omega
  have hmc2 : m2 ≤ cq := by omega
  have hr5 := few_row rs0
  have hrw := few_lt hrw0
  have hm12 := few_len rs0
  have hla : la ≤ 9223372036854775807 := by unfold maxLen at hcm0; omega
  obtain ⟨rs, hrs⟩ : ∃ rs, rs = few rs0 := ⟨_, rfl⟩
  rw [← hrs] at hm12 hr5 hrw
  have hff := flat_few hm12 hr5
  obtain ⟨n, hn⟩ : ∃ n, n = rs.length := ⟨_, rfl⟩
  rw [← hn] at hm12 hff
  obtain ⟨fl, hfl⟩ : ∃ fl, (flat rs).length = fl := ⟨_, rfl⟩
  rw [hfl] at hff
  have HFL := Lib.hid hfl
  have HFEW := Lib.hid hrs
  have HR5 := Lib.hid hr5
  have HR16 := Lib.hid (show ∀ r ∈ rs, r.length ≤ 16384 from fun r hr => Nat.le_trans (hr5 r hr) (by omega))
  have HRW := Lib.hid hrw
  have HN := Lib.hid hn
  have HR0 := Lib.hid hrd0
  have HRL0 := Lib.hid hrl0
  have HRB := Lib.hid hrb
  have HRQ := Lib.hid hrq
  have HYW := Lib.hid hyw
  have HMW := Lib.hid hmw
  have HYL := Lib.hid hyl
  have HML := Lib.hid hml
  have HCQ := Lib.hid hcq
  unfold maxLen at hcb
  clear ha hb hq hrd0 hrl0 hrw0 hrb0 hyw0 hyl0 hrb hyw hyl hys hm hm2 hrs hr5 hrw hn hrq0 hql0 hqw0 hrq hmw hml hms hfl
  go_enter Try.func4, Try.ntmps4
  go_wp2_with fail
  refine (awake_ok w).mono ?_
  rintro e w1 ⟨rfl, hb1⟩
  have HB1 := Lib.hid hb1
  have hz1 := hb1.size
  have HFA := Lib.hid (show ∀ W, Below w1.heap.size w1 W → Calls Try.prog 15 #[.slice a la ca] W (FewRes W rs0) from fun W hW => few_any a la ca rs0 W HRL0.out ((HR0.out.below hb1).below hW) hla)
  clear hb1
  go_upto_region 3 with fail
  go_cut [0, 1, 2] from 22 to 33 (fun s0 s1 s2 wx => ∃ FA fc, s0 = .slice FA n fc ∧ s1 = .slice b m cb ∧ s2 = .slice q m2 cq ∧ RdRows wx FA rs ∧ Below w.heap.size w wx)
  case first =>
    go_region_with (first
      | (go_at_call 15
         refine (HFA.out _ (by first | exact (Below.refl _ _).drew | exact ((Below.refl _ _).drew).drew | exact (((Below.refl _ _).drew).drew).drew | exact ((((Below.refl _ _).drew).drew).drew).drew)).mono ?_
         rintro e wq ⟨v, rfl, hown, hbq⟩
         rw [← HFEW.out] at hown
         obtain ⟨FA, fc, hfv, _, _, hfrd⟩ := hown.form
         subst hfv
         rw [← HN.out]
         have hbq1 : Below w1.heap.size w1 wq := ⟨hbq.os, hbq.tape, hbq.output, hbq.size, hbq.block⟩
         have HBQ := Lib.hid (HB1.out.trans (hbq1.mono hz1))
         have HFR := Lib.hid hfrd
         clear hown hbq hbq1 hfrd))
    all_goals
      go_wp2_with fail
      go_meet
      first
        | exact ⟨FA, fc, rfl, rfl, rfl, HFR.out, HBQ.out⟩
        | exact ⟨FA, fc, rfl, rfl, rfl, HFR.out.drew, HBQ.out.drew⟩
        | exact ⟨FA, fc, rfl, rfl, rfl, HFR.out.drew.drew, HBQ.out.drew.drew⟩
        | exact ⟨FA, fc, rfl, rfl, rfl, HFR.out.drew.drew.drew, HBQ.out.drew.drew.drew⟩
  case rest =>
  obtain ⟨FA, fc, rfl, rfl, rfl, hfrd, hbq⟩ := hcut
  obtain ⟨wq, hwq⟩ : ∃ wq, wq = wc := ⟨_, rfl⟩
  rw [← hwq] at hfrd hbq ⊢
  have HBQ := Lib.hid hbq
  have HFR := Lib.hid hfrd
  have hzq := hbq.size
  clear hfrd hbq hwq hmin hf1 hmin2 hf2
  go_wp2_with fail
  refine (of_q 262144 262144 262144 wq rfl rfl).mono ?_
  rintro e w2 ⟨rfl, hd2, hb2⟩
  have hz2 := hb2.size
  have HD2 := Lib.hid hd2
  have HB2 := Lib.hid hb2
  clear hd2 hb2
  go_wp2_with fail
  refine (open_new HD2.out (by omega) hz2).mono ?_
  rintro e w3 ⟨jb, S3, T3, rfl, hj3, hf3, _, _⟩
  have hb3 : Below wq.heap.size wq w3 := HB2.out.trans (hf3.below (fun i hi => (HD2.out.low i hi).1) hz2)
  have HJ3 := Lib.hid hj3
  have HB3 := Lib.hid hb3
  have hz3 := hb3.size
  clear hj3 hf3 hb3
  -- the rows that are handed in lie below the disk
  have hrr : RdRowsR (fun i => i < wq.heap.size) w3 FA rs := fun hn0 => by
    obtain ⟨ad, e, hc⟩ := HFR.out hn0
    have h0 := hc 0 rs[0] (List.getElem?_eq_getElem hn0)
    obtain ⟨u0, hu0, _⟩ := h0
    have hlt := World.block_lt_of_cell? wq _ hu0
    rw [add_block] at hlt
    refine ⟨ad, e, hlt, fun j r hj => ?_⟩
    obtain ⟨u, hu, A', c', e', h1, h2, h3⟩ := hc j r hj
    refine ⟨u, by rw [HB3.out.cell (World.block_lt_of_cell? wq _ hu)]; exact hu, ⟨A', c', e', h1, h2, h3.below HB3.out⟩, ?_⟩
    rw [e']
    exact h3.to
  have HRR := Lib.hid hrr
  clear hrr
  go_wp2_with fail
  refine (append_calm HJ3.out FA n fc (ns := rs) HN.out.symm HRR.out (fun i hi => ⟨by omega, fun hjj => by have := (HJ3.out.jd.low i hjj).1; omega⟩) HRW.out (by omega) HR16.out (by rw [HFL.out]; simp [jf, snapF, recF, ptotal]; omega)).mono ?_
  rintro e w4 ⟨rfl, hs4⟩
  obtain ⟨S4, T4, hj4, hb4⟩ := hs4.base_ HJ3.out
  have hb4' : Below wq.heap.size wq w4 := HB3.out.trans hb4
  have HD4 := Lib.hid (show DiskQ w4 S4 wq.heap.size wq.heap.size 262144 [(2, flat rs, (flat rs).length)] calm from hj4.jd.disk)
  have HB4 := Lib.hid hb4'
  have hz4 := hb4'.size
  have hry4 : Rd .u8 w4 b m (ints ys) := HRB.out.below (HBQ.out.trans (hb4'.mono hzq))
  have HRY4 := Lib.hid hry4
  clear hs4 hj4 hb4 hb4' hry4
  obtain ⟨f, hf⟩ : ∃ f, fone ys = f := ⟨_, rfl⟩
  have HF := Lib.hid hf
  clear hf
  go_wp2_with fail
  refine (one_any b m cb ys w4 HRY4.out HYW.out hmc (by omega) f HF.out).mono ?_
  rintro e w5 ⟨hb5, hres⟩
  have HD5 := Lib.hid (HD4.out.below hb5)
  have HB5 := Lib.hid (HB4.out.trans (hb5.mono hz4))
  have hz5 := HB5.out.size
  clear hb5
  cases f with
  | some r =>
    obtain ⟨Y, yc, rfl, _, _, _, _⟩ := hres
    go_wp2
    go_ret
    exact ⟨rfl, HBQ.out.trans (HB5.out.mono hzq)⟩
  | none =>
    obtain rfl := hres
    have hry5 : Rd .u8 w5 b m (ints ys) := HRB.out.below (HBQ.out.trans (HB5.out.mono hzq))
    have HRY5 := Lib.hid hry5
    clear hry5
    go_wp2_with fail
    refine (append_q HD5.out rfl (by show 0 ≤ _; omega) (wf3 2 (by omega)) b m cb ys HRY5.out HYW.out (zs := flat rs) (n := (flat rs).length) (by simp [pget]) (by omega) (by simp [ptotal, HFL.out]; omega) (by simp) hz5).mono ?_
    rintro e w6 ⟨rfl, S6, hd6, hf6, hw6⟩
    have hd6' : DiskQ w6 S6 wq.heap.size wq.heap.size 262144 [(2, flat rs ++ ys, (flat rs).length)] calm := by
      have e1 : pput [((2 : Int), flat rs, (flat rs).length)] ((2 : Nat) : Int) (flat rs ++ ys) (flat rs).length = [(2, flat rs ++ ys, (flat rs).length)] := by simp [pput, pdel, pins]
      rw [e1] at hd6
      exact hd6
    have hb6 : Below wq.heap.size wq w6 := HB5.out.trans (hf6.below (fun i hi => (HD5.out.low i hi).1) hz5)
    have HD6 := Lib.hid hd6'
    have HB6 := Lib.hid hb6
    have hz6 := hb6.size
    have hce : calm.err = .nilIface := rfl
    rw [hce]
    clear hce hd6 hd6' hf6 hw6 hb6
    go_wp2
    go_loopw [13, 68] (fun v i wr => ∃ k : Nat, k ≤ n ∧ i = .int .i64 (k : Int) ∧ OwnStrs wr w6.heap.size v (rs.take k) ∧ Below w6.heap.size w6 wr) (fun _ i _ => n - (intOf i).toNat)
    case atStart => exact ⟨0, Nat.zero_le _, rfl, OwnStrs.nil, Below.refl _ _⟩
    case round =>
      obtain ⟨k, hk, rfl, hst, hbel⟩ := hrel
      by_cases hlt : k < n
      · have hlt' : k < rs.length := by rw [← HN.out]; exact hlt
        obtain ⟨ad, B, c, rfl, hcell0, h1, h2, hrd0⟩ := HFR.out.at_ hlt'
        have hbr : Below wq.heap.size wq wr := HB6.out.trans (hbel.mono hz6)
        have hcell : wr.cell? (ad.add k) = some (.slice B rs[k].length c) := by rw [hbr.cell (World.block_lt_of_cell? wq _ hcell0)]; exact hcell0
        obtain ⟨r, hre⟩ : ∃ r, r = rs[k] := ⟨_, rfl⟩
        have hnext : rs.take (k + 1) = rs.take k ++ [r] := by rw [hre, List.take_succ_eq_append_getElem hlt']
        have hlk : (rs.take k).length = k := by rw [List.length_take]; omega
        rw [← hre] at hcell hrd0
        obtain ⟨z, hz⟩ : ∃ z, z = r.length := ⟨_, rfl⟩
        rw [← hz] at hcell hrd0
        have d := str_of wr B z c r (hrd0.below hbr)
        have hzr := hbel.size
        have hown : wr.ownsRow w6.heap.size 9 1 u13 k ((rs.take k).map fun r => Value.string (strN r)) := by have h := hst; unfold OwnStrs at h; rw [hlk] at h; exact h
        have HOWN := Lib.hid hown
        have HST := Lib.hid hst
        have HNX := Lib.hid hnext
        have HLK := Lib.hid hlk
        have HBEL := Lib.hid hbel
        clear hst hown hnext hlk hbel hbr hcell0 hrd0 hre hz hlt' h1 h2
        go_wp2_with (first
          | (at_builtin
             refine wpList_append_one _ rfl (.tmp 72) (.tmp 75) 32 rfl 16 w6.heap.size 9 (.string ⟨#[]⟩) Try.underlying32 info_str rfl u13 k _ rfl (World.ownsRow.alloc HOWN.out _) ⟨wr.heap.size, 0, none⟩ 1 (.string (strN r)) rfl (by simp) rfl (by omega) (by omega) (by simp; omega) (by simp only [maxLen]; omega) ?_
             intro vE wE hoE hgE)
          | fail)
        have hbE : Below w6.heap.size w6 wE := hgE.below (HBEL.out.alloc hzr _) (by simp; omega) (fun g hg => (HST.out.lt g hg).1)
        have hstE : OwnStrs wE w6.heap.size vE (rs.take (k + 1)) := by
          rw [HNX.out]
          refine OwnStrs.push ?_
          rw [HLK.out]
          exact hoE
        exact ⟨⟨k + 1, by omega, by go_num, hstE, hbE⟩, by simp [intOf]; omega⟩
      · obtain rfl : k = n := by omega
        rw [List.take_of_length_le (by rw [← HN.out]; omega)] at hst
        obtain ⟨RA, rc, hrv, hrs7⟩ := hst.form
        rw [← HN.out] at hrv
        subst hrv
        have hd7 := HD6.out.below hbel
        have hb7 : Below wq.heap.size wq wr := HB6.out.trans (hbel.mono hz6)
        have hz7 := hb7.size
        have hz67 := hbel.size
        have HD7 := Lib.hid hd7
        have HB7 := Lib.hid hb7
        have HST7 := Lib.hid hst
        clear hst hrs7 hd7 hb7 hbel
        go_wp2_with fail
        refine (open_torn HD7.out HF.out HR16.out (by rw [HFL.out, HYL.out]; omega) (by omega) hz7).mono ?_
        rintro e w8 ⟨xb, S8, T8, rfl, hx8, hf8, hw8, hT8⟩
        have hsn : ∀ g, (Value.slice RA k rc).ownBlock = some g → ¬ S6 g := fun g hg hS => by have h1 := (HST7.out.lt g hg).1; have h2 := (HD6.out.low g hS).2; omega
        have hst8 := HST7.out.fr hf8 hsn
        have hout8 : ∀ g, (Value.slice RA k rc).ownBlock = some g → ¬ joined S8 T8 g := fun g hg hu => hu.elim (fun h => (hw8 g h).elim (hsn g hg) (fun h' => by have := (HST7.out.lt g hg).2; omega)) (fun h => by have h1 := hT8 g h; have := (HST7.out.lt g hg).2; omega)
        have hb8 : Below wq.heap.size wq w8 := HB7.out.trans (hf8.below (fun i hi => (HD7.out.low i hi).1) hz7)
        obtain ⟨A8, c8, heq8, hrs8⟩ := hst8.form
        rw [← HN.out] at heq8
        injection heq8 with e81 e82 e83
        subst e81 e83
        have HJ8 := Lib.hid hx8
        have HST8 := Lib.hid hst8
        have HO8 := Lib.hid hout8
        have HB8 := Lib.hid hb8
        have hz8 := hb8.size
        have hsh := shows_any hx8.jd.jat [] (by simp) RA k rc rs HN.out.symm hrs8 HRW.out (by omega) 0 true (by simp)
        rw [strN_none] at hsh
        have HSH := Lib.hid hsh
        have hz68 : w6.heap.size ≤ w8.heap.size := by have := hf8.size; omega
        clear hx8 hf8 hw8 hT8 hst8 hout8 hb8 hrs8 hsn hsh
        go_wp2_with fail
        refine HSH.out.mono ?_
        rintro e w9 ⟨rfl, hb9⟩
        have HJ9 := Lib.hid (HJ8.out.below hb9)
        have HST9 := Lib.hid (HST8.out.below hb9)
        have HB9 := Lib.hid (HB8.out.trans (hb9.mono hz8))
        have hz9 := HB9.out.size
        have hz69 : w6.heap.size ≤ w9.heap.size := Nat.le_trans hz68 hb9.size
        clear hb9
        have hrq9 : Rd .u8 w9 q m2 (ints ms) := HRQ.out.below (HBQ.out.trans (HB9.out.mono hzq))
        have hrows : RdRowsR (fun i => i < wq.heap.size ∨ i = w9.heap.size) (w9.alloc (.cells #[.slice q m2 cq] 34)) (some ⟨w9.heap.size, 0, none⟩) [ms] :=
          RdRowsR.made (w := w9) (ns := [ms]) (ty := 34) (fr := (0, 0)) [.slice q m2 cq] (fun j u x hu hx => by
            cases j with
            | zero =>
              simp at hu hx
              subst hu hx
              exact ⟨RowAt.of_rd hrq9 hmc2 HCQ.out, HRQ.out.to.wide fun i hi => .inl (by omega)⟩
            | succ j => simp at hu) rfl (.inr rfl)
        have HROWS := Lib.hid hrows
        clear hrq9 hrows
        have HLT1 := Lib.hid (show ∀ x ∈ [ms], ∀ y ∈ x, y < 256 by intro x hx; simp at hx; subst hx; exact HMW.out)
        have HSH1 := Lib.hid (show ∀ x ∈ [ms], x.length ≤ 16384 by intro x hx; simp at hx; subst hx; rw [HML.out]; omega)
        have hflm : (flat [ms]).length = 6 + m2 := by rw [flat_one, fmk_length, HML.out]
        have HFLM := Lib.hid hflm
        clear hflm
        go_wp2_with fail
        refine (append_calm (HJ9.out.alloc _) (some ⟨w9.heap.size, 0, none⟩) 1 1 (ns := [ms]) rfl HROWS.out (fun i hi => ⟨by simp; omega, fun hjj => by have := HJ9.out.jd.low i hjj; omega⟩) HLT1.out (by omega) HSH1.out (by rw [jf_total]; simp [HFLM.out, HFL.out]; omega)).mono ?_
        rintro e w10 ⟨rfl, S10, T10, hj10, hf10, hw10⟩
        have hst10 := (HST9.out.alloc (.cells #[.slice q m2 cq] 34)).fr hf10 HO8.out
        have hout10 := out_wide (v := .slice RA k rc) HO8.out (fun g hg => by have := (HST9.out.lt g hg).2; simp; omega) hw10
        have hb10 : Below wq.heap.size wq w10 := (HB9.out.alloc hz9 _).trans (hf10.below (fun i hi => (HJ9.out.jd.low i hi).1) (by simp; omega))
        have HJ10 := Lib.hid hj10
        have HST10 := Lib.hid hst10
        have HO10 := Lib.hid hout10
        have HB10 := Lib.hid hb10
        have hz10 := hb10.size
        have hz610 : w6.heap.size ≤ w10.heap.size := by have := hf10.size; simp at this; omega
        clear hj10 hf10 hw10 hst10 hout10 hb10
        go_wp2_with fail
        refine (open_calm HJ10.out.jd.disk HJ10.out.recs HJ10.out.zero HJ10.out.small HJ10.out.snap HJ10.out.short HJ10.out.fits HJ10.out.room_ HJ10.out.base_).mono ?_
        rintro e w11 ⟨yb, S11, T11, rfl, hy11, hf11, hw11, hT11⟩
        have hst11 := HST10.out.fr hf11 (fun g hg hS => HO10.out g hg (.inl hS))
        have hout11 : ∀ g, (Value.slice RA k rc).ownBlock = some g → ¬ joined S11 T11 g := fun g hg hu => hu.elim (fun h => (hw11 g h).elim (fun h' => HO10.out g hg (.inl h')) (fun h' => by have := (HST10.out.lt g hg).2; omega)) (fun h => by have h1 := hT11 g h; have := (HST10.out.lt g hg).2; omega)
        have hb11 : Below wq.heap.size wq w11 := HB10.out.trans (hf11.below (fun i hi => (HJ10.out.jd.disk.low i hi).1) HJ10.out.base_)
        have d11 := str_of w11 q m2 cq ms (HRQ.out.below (HBQ.out.trans (hb11.mono hzq)))
        have hown11 : w11.ownsRow w6.heap.size 9 1 (.slice RA k rc) k (rs.map fun r => Value.string (strN r)) := by have h := hst11; unfold OwnStrs at h; rw [← HN.out] at h; exact h
        have HJ11 := Lib.hid hy11
        have HOWN11 := Lib.hid hown11
        have HST11 := Lib.hid hst11
        have HO11 := Lib.hid hout11
        have HB11 := Lib.hid hb11
        have hz11 := hb11.size
        have hz611 : w6.heap.size ≤ w11.heap.size := by have := hf11.size; omega
        clear hy11 hf11 hw11 hT11 hst11 hout11 hb11 hown11
        go_wp2_with (first
          | (at_builtin
             refine wpList_append_one_g _ rfl (.tmp 115) (.tmp 118) 32 rfl 16 w6.heap.size 9 (.string ⟨#[]⟩) Try.underlying32 info_str rfl (.slice RA k rc) k _ rfl (World.ownsRow.alloc HOWN11.out _) ⟨w11.heap.size, 0, none⟩ 1 (.string (strN ms)) rfl (by simp) rfl (by omega) (by omega) (by simp; omega) (by simp only [maxLen]; omega) ?_
             intro vE wE hoE hgE)
          | fail)
        have hjE := (HJ11.out.alloc (.cells #[.string (strN ms)] 9)).grew hgE HO11.out
        have hbE : Below wq.heap.size wq wE := hgE.below (HB11.out.alloc hz11 _) (by simp; omega) (fun g hg => by have := (HST11.out.lt g hg).1; omega)
        have hstE : OwnStrs wE w6.heap.size vE (rs ++ [ms]) := by
          refine OwnStrs.push ?_
          rw [← HN.out]
          exact hoE
        obtain ⟨EA, ec, heq, hrsE⟩ := hstE.form
        subst heq
        have hsh := shows_any hjE.jd.jat [] (by simp) EA (rs ++ [ms]).length ec (rs ++ [ms]) rfl hrsE hjE.jd.jat.lt.2 (by rw [List.length_append, ← HN.out]; simp; omega) 0 true (by simp)
        rw [strN_none] at hsh
        have HSHE := Lib.hid hsh
        have HBE := Lib.hid hbE
        have hzE := hbE.size
        clear hoE hgE hjE hbE hstE hrsE d11 hsh
        obtain ⟨el, hel⟩ : ∃ el, el = (rs ++ [ms]).length := ⟨_, rfl⟩
        rw [← hel] at HSHE ⊢
        clear hel
        try (go_wp2_with fail)
        refine HSHE.out.mono ?_
        rintro e w12 ⟨rfl, hb12⟩
        have HB12 := Lib.hid (HBQ.out.trans ((HBE.out.trans (hb12.mono hzE)).mono hzq))
        clear hb12
        go_wp2
        go_ret
        exact ⟨rfl, HB12.out⟩
end Go.Proofs.Ytlakkhhibdcjaaa
