/-
  DiskSafe walked: what was made safe is there behind a stop, and of the rest a beginning.
-/
import Derived.Test.YtopogffoiofgbaaDiskAwake
import Derived.Test.YtopogffoiofgbaaFrameFew
import Derived.Test.YtopogffoiofgbaaRowsArg
import Derived.BigQuiet
import Derived.Deep.QuietTactic
import Derived.OpenShut
namespace Go.Proofs.Ytopogffoiofgbaa
open Go Go.RowKit Go.Maps
set_option linter.unusedVariables false

def catR (rs : List (List Nat)) : List Nat := rs.flatten
theorem catR_snoc (rs : List (List Nat)) (k : Nat) (h : k < rs.length) : catR (rs.take (k + 1)) = catR (rs.take k) ++ rs[k] := by
  rw [List.take_succ_eq_append_getElem h, catR, catR, List.flatten_append]; simp
theorem catR_le (rs : List (List Nat)) (h : ∀ r ∈ rs, r.length ≤ 500) : (catR rs).length ≤ 500 * rs.length := by
  induction rs with
  | nil => simp [catR]
  | cons r rs ih =>
    have h1 := h r (by simp)
    have h2 := ih fun x hx => h x (by simp [hx])
    simp only [catR, List.flatten_cons, List.length_append, List.length_cons] at h2 ⊢
    omega
theorem catR_take (rs : List (List Nat)) (h : ∀ r ∈ rs, r.length ≤ 500) (k : Nat) : (catR (rs.take k)).length ≤ 500 * rs.length := by
  have h1 := catR_le (rs.take k) fun r hr => h r (List.mem_of_mem_take hr)
  have h2 : (rs.take k).length ≤ rs.length := by rw [List.length_take]; omega
  omega
theorem catR_lt {rs : List (List Nat)} (h : ∀ r ∈ rs, ∀ x ∈ r, x < 256) : ∀ x ∈ catR rs, x < 256 := fun x hx => by
  obtain ⟨r, hr, hx⟩ := List.mem_flatten.1 hx
  exact h r hr x hx

/-- How many bytes are safe behind k rows. -/
def sureAt (rs : List (List Nat)) (idx k : Nat) : Nat := if idx < k then (catR (rs.take (idx + 1))).length else 0
/-- The files behind k rows. -/
def psAt (rs : List (List Nat)) (idx k : Nat) : List PF := if k = 0 then [] else [(3, catR (rs.take k), sureAt rs idx k)]
theorem psAt_get (rs : List (List Nat)) (idx k : Nat) : (pget (psAt rs idx k) 3).getD ([], 0) = (catR (rs.take k), sureAt rs idx k) := by
  unfold psAt
  split
  · rename_i h; subst h; simp [pget, catR, sureAt]
  · simp [pget]
theorem psAt_put (rs : List (List Nat)) (idx k : Nat) (zs : List Nat) (s : Nat) : pput (psAt rs idx k) 3 zs s = [(3, zs, s)] := by
  unfold psAt
  split <;> simp [pput, pdel, pins]
theorem psAt_len (rs : List (List Nat)) (idx k : Nat) : (psAt rs idx k).length < 1000 := by
  unfold psAt
  split <;> simp
theorem psAt_total (rs : List (List Nat)) (idx k : Nat) : ptotal (psAt rs idx k) = (catR (rs.take k)).length := by
  unfold psAt
  split
  · rename_i h; subst h; simp [ptotal, catR]
  · simp [ptotal]
theorem psAt_next (rs : List (List Nat)) (idx k : Nat) : psAt rs idx (k + 1) = [(3, catR (rs.take (k + 1)), sureAt rs idx (k + 1))] := by simp [psAt]
theorem sure_hit (rs : List (List Nat)) (k : Nat) : sureAt rs k (k + 1) = (catR (rs.take (k + 1))).length := by simp [sureAt]
theorem sure_miss (rs : List (List Nat)) {idx k : Nat} (h : k ≠ idx) : sureAt rs idx (k + 1) = sureAt rs idx k := by
  unfold sureAt
  by_cases h1 : idx < k
  · rw [if_pos h1, if_pos (by omega)]
  · rw [if_neg h1, if_neg (by omega)]
theorem rst_again (keep : Int) (k : Int) (zs : List Nat) : rst keep (k, zs, zs.length) = (k, zs, zs.length) := by
  simp [rst, Int.emod_one]

set_option maxRecDepth 100000 in
set_option maxHeartbeats 4000000 in
theorem diskSafe_walk (w : World) (a : Option Addr) (len cap : Nat) (h : IsRows .u8 w a len cap) (s_ : Int) (hs_ : (Lit.int .u8 s_).wf = true) (keep : Int) (hk_ : (Lit.int .i64 keep).wf = true) :
    Calls Try.prog 3 #[.slice a len cap, .int .u8 s_, .int .i64 keep] w fun e w' => e = .returned (.bool true) ∧ Below w.heap.size w w' := by
  obtain ⟨t, rfl, ht⟩ := u8_nat hs_
  have hkeep : -9223372036854775808 ≤ keep ∧ keep ≤ 9223372036854775807 := by
    have e1 : IntKind.i64.min = -9223372036854775808 := rfl
    have e2 : IntKind.i64.max = 9223372036854775807 := rfl
    simp only [Lit.wf, Bool.and_eq_true, decide_eq_true_eq] at hk_
    omega
  have w3 : (Lit.int .i64 3).wf = true := wf3 3 (by omega)
  obtain ⟨rs0, hrl0, hrd0, hrw0, hnc0, hcm0⟩ := rows_bytes h
  have HR0 := Lib.hid hrd0
  have HRL0 := Lib.hid hrl0
  have hm12 := few_len rs0
  have hr5 := few_row rs0
  have hrw := few_lt hrw0
  have hcap0 : len ≤ 9223372036854775807 := by unfold maxLen at hcm0; omega
  obtain ⟨rs, hrs⟩ : ∃ rs, rs = few rs0 := ⟨_, rfl⟩
  rw [← hrs] at hm12 hr5 hrw
  have HFEW := Lib.hid hrs
  have HR5 := Lib.hid hr5
  have HRW := Lib.hid hrw
  obtain ⟨m, hm⟩ : ∃ m, m = rs.length := ⟨_, rfl⟩
  rw [← hm] at hm12
  have HM := Lib.hid hm
  clear h hrd0 hrl0 hrw0 hs_ hk_ hrs hr5 hrw hm
  go_enter Try.func3, Try.ntmps3
  go_wp2_with fail
  refine (awake_ok w).mono ?_
  rintro e w1 ⟨rfl, hb⟩
  have HB := Lib.hid hb
  have HR1 := Lib.hid (HR0.out.below hb)
  clear hb
  go_wp2_with fail
  refine (few_any a len cap rs0 w1 HRL0.out HR1.out (by omega)).mono ?_
  rintro e w2 ⟨v, rfl, hown, hb⟩
  rw [← HFEW.out] at hown
  obtain ⟨A2, c2, rfl, h21, h22, hrows⟩ := hown.form
  rw [← HM.out] at h21 ⊢
  have HROWS := Lib.hid hrows
  have HB2 := Lib.hid (HB.out.trans (hb.mono HB.out.size))
  have hz2 := HB2.out.size
  clear hown hb hrows HR1 HB HR0 HRL0 HFEW
  go_wp2_with fail
  refine (of_ok 262144 262144 262144 w2 rfl rfl).mono ?_
  rintro e w3' ⟨rfl, hd3, hb3⟩
  have HD3 := Lib.hid hd3
  have HB3 := Lib.hid hb3
  have hz3 := hb3.size
  clear hd3 hb3
  by_cases hm0 : m = 0
  · have hm1 : ((m : Int) == 0) = true := by simp [hm0]
    go_wp2_with fail
    refine (names_ok HD3.out (by simp)).mono ?_
    rintro e w4 ⟨v4, rfl, ho4, hb4⟩
    obtain ⟨A4, c4, rfl, _, _, _, _⟩ := ho4.form
    have HB4 := Lib.hid (HB2.out.trans ((HB3.out.trans (hb4.mono hz3)).mono hz2))
    clear ho4 hb4
    go_wp2
    go_ret
    exact ⟨rfl, HB4.out⟩
  · have hm1 : ((m : Int) == 0) = false := by simp [hm0]
    obtain ⟨idx, hidx⟩ : ∃ idx, idx = t % m := ⟨_, rfl⟩
    have hil : idx < m := by rw [hidx]; exact Nat.mod_lt _ (by omega)
    have htm : (t : Int).tmod (m : Int) = (idx : Int) := by rw [hidx]; rfl
    have hem : (t : Int) % (m : Int) = (idx : Int) := by rw [hidx]; rfl
    have hm2 : ¬ ((m : Int) = 0) := by omega
    clear hidx
    go_wp2
    go_loopw [8, 9, 30] (fun al su i wr => ∃ (k : Nat) (S : Nat → Prop), k ≤ m ∧ i = .int .i64 k ∧ al = .string (strN (catR (rs.take k))) ∧ su = .int .i64 (sureAt rs idx k : Int) ∧
        DiskP wr S w2.heap.size w2.heap.size 262144 (psAt rs idx k) ∧ Below w2.heap.size w2 wr) (fun _ _ i _ => m - (intOf i).toNat)
    case atStart => exact ⟨0, _, Nat.zero_le _, rfl, rfl, by simp [sureAt], HD3.out, HB3.out⟩
    case round =>
      obtain ⟨k, S, hk, rfl, rfl, rfl, hd, hbel⟩ := hrel
      have HD := Lib.hid hd
      have HBEL := Lib.hid hbel
      have hzr := hbel.size
      by_cases hlt : k < m
      · have hlt' : k < rs.length := by rw [← HM.out]; exact hlt
        obtain ⟨ad, B, c, rfl, hcell, h1, h2, hrd⟩ := HROWS.out.at_ hlt'
        rw [← hbel.cell (World.block_lt_of_cell? _ _ hcell)] at hcell
        have hr16 := HR5.out _ (List.getElem_mem hlt')
        have hrw := HRW.out _ (List.getElem_mem hlt')
        have hft := catR_snoc rs k hlt'
        have hle := catR_take rs HR5.out k
        have hle2 := catR_take rs HR5.out (k + 1)
        have hpg := psAt_get rs idx k
        have hpt := psAt_total rs idx k
        have hpn := psAt_next rs idx k
        rw [← HM.out] at hle hle2
        obtain ⟨r, hre⟩ : ∃ r, r = rs[k] := ⟨_, rfl⟩
        rw [← hre] at hcell h1 hrd hr16 hrw hft
        obtain ⟨z, hz⟩ : ∃ z, z = r.length := ⟨_, rfl⟩
        rw [← hz] at hcell h1 hrd hr16
        obtain ⟨u, hu⟩ : ∃ u, u = catR (rs.take k) := ⟨_, rfl⟩
        obtain ⟨u', hu'⟩ : ∃ u', u' = catR (rs.take (k + 1)) := ⟨_, rfl⟩
        obtain ⟨q, hq⟩ : ∃ q, q = sureAt rs idx k := ⟨_, rfl⟩
        rw [← hu] at hft hle hpg hpt ⊢
        rw [← hu'] at hft hle2 hpn
        rw [← hq] at hpg ⊢
        have hss : ¬ 9223372036854775807 < (strN u).size + (strN r).size := by rw [strN_size, strN_size]; omega
        have hcat : strN u ++ strN r = strN u' := by rw [strN_append, ← hft]
        have hst : ∀ w' : World, Below w2.heap.size w2 w' → (convert 29 9 (.slice B z c)).run Try.prog w' = .ok (.string (strN r)) w' := fun w' hb => str_of w' B z c r (hrd.below hb)
        have hsz : (strN u').size = u'.length := strN_size _
        have HRD := Lib.hid (hrd.below HBEL.out)
        have HRWk := Lib.hid hrw
        have HFK := Lib.hid hft
        have HPG := Lib.hid hpg
        have HPT := Lib.hid hpt
        have HPN := Lib.hid hpn
        have HU := Lib.hid hu
        have HU' := Lib.hid hu'
        have HQ := Lib.hid hq
        clear hrd hrw hft hpg hpt hpn hu hu' hq hd hbel hre hz hlt'
        go_wp2_with fail
        refine (append_ok HD.out w3 B z c r HRD.out HRWk.out HPG.out (by omega) (by rw [HPT.out]; omega) (psAt_len _ _ _) hzr).mono ?_
        rintro e w4 ⟨rfl, hs4⟩
        obtain ⟨S4, hd4, hb4, hz4⟩ := hs4.calm HD.out hzr
        rw [psAt_put, ← HFK.out] at hd4
        have HD4 := Lib.hid hd4
        have HB4 := Lib.hid (HBEL.out.trans hb4)
        have hst4 := hst w4 HB4.out
        clear hs4 hd4 hb4 hst
        by_cases hki : k = idx
        · have hkb : ((k : Int) == (idx : Int)) = true := by simp [hki]
          go_wp2_with fail
          refine (sync_ok HD4.out w3 (zs := u') (s := q) (by simp [pget]) (by simp) hz4).mono ?_
          rintro e w5 ⟨rfl, hs5⟩
          obtain ⟨S5, hd5, hb5, hz5⟩ := hs5.calm HD4.out hz4
          have HD5 := Lib.hid hd5
          have HB5 := Lib.hid (HB4.out.trans hb5)
          clear hs5 hd5 hb5
          go_wp2
          go_roundw
          case rel =>
            have e1 : sureAt rs idx (k + 1) = u'.length := by rw [← hki, sure_hit, ← HU'.out]
            refine ⟨k + 1, S5, by omega, by go_num, by rw [HU'.out], by rw [e1], ?_, HB5.out⟩
            rw [HPN.out, e1]
            have := HD5.out
            simpa [pput, pdel, pins] using this
          case measure => simp [intOf]; omega
        · have hkb : ((k : Int) == (idx : Int)) = false := by simp; omega
          go_wp2
          go_roundw
          case rel =>
            have e1 : sureAt rs idx (k + 1) = q := by rw [sure_miss rs hki, HQ.out]
            refine ⟨k + 1, S4, by omega, by go_num, by rw [HU'.out], by rw [e1], ?_, HB4.out⟩
            rw [HPN.out, e1]
            exact HD4.out
          case measure => simp [intOf]; omega
      · have hkm : k = m := by omega
        subst hkm
        have hle := catR_take rs HR5.out k
        rw [← HM.out] at hle
        have hps : psAt rs idx k = [(3, catR (rs.take k), sureAt rs idx k)] := by simp [psAt, hm0]
        rw [hps] at HD
        have hlt3 := (HD.out.lt (List.mem_singleton.2 rfl))
        obtain ⟨u, hu⟩ : ∃ u, u = catR (rs.take k) := ⟨_, rfl⟩
        obtain ⟨q, hq⟩ : ∃ q, q = sureAt rs idx k := ⟨_, rfl⟩
        rw [← hu] at hle HD hlt3 ⊢
        rw [← hq] at HD hlt3 ⊢
        clear hu hq hps hd hbel
        go_wp2_with fail
        refine (restart_ok HD.out keep hkeep (by simp) (by intro p hp; simp at hp; subst hp; exact ⟨by simp only; omega, w3⟩) hzr).mono ?_
        rintro e w4 ⟨rfl, hs4⟩
        obtain ⟨n, hn⟩ : ∃ n, n = q + (keep % ((u.length - q : Nat) + 1 : Int)).toNat := ⟨_, rfl⟩
        have hn1 : q ≤ n := by omega
        have hn2 : n ≤ u.length := by
          have h1 := Int.emod_lt_of_pos keep (show 0 < ((u.length - q : Nat) + 1 : Int) by omega)
          have h2 := Int.emod_nonneg keep (show ((u.length - q : Nat) + 1 : Int) ≠ 0 by omega)
          have := hlt3.2
          omega
        obtain ⟨x, hx⟩ : ∃ x, x = u.take n := ⟨_, rfl⟩
        have hxl : x.length = n := by rw [hx, List.length_take]; omega
        have hrs : [(3, u, q)].map (rst keep) = [((3 : Int), x, n)] := by rw [hx, hn]; rfl
        rw [hrs] at hs4
        obtain ⟨S4, hd4, hb4, hz4⟩ := hs4.calm HD.out hzr
        have HD4 := Lib.hid hd4
        have HB4 := Lib.hid (HBEL.out.trans hb4)
        have HX := Lib.hid hx
        have HXL := Lib.hid hxl
        have HUL := Lib.hid hlt3.1
        clear hs4 hd4 hb4 hrs hx hxl hn hlt3
        go_wp2_with fail
        refine (read_ok HD4.out w3 (zs := x) (s := n) (t := true) (by simp [pget]) (by simp [pget]) (by rw [HXL.out]; omega)).mono ?_
        rintro e w5 ⟨v5, rfl, ho5, hb5⟩
        rw [HXL.out] at ho5
        have HO5 := Lib.hid ho5
        have HB5 := Lib.hid hb5
        obtain ⟨A5, c5, rfl, _, _, hr5, _⟩ := ho5.form
        have d5 := fun W : World => fun hW : Rd .u8 W A5 n (ints x) => str_of W A5 n c5 x hW
        have HR5' := Lib.hid hr5
        have hfs := fun W : World => run_strFront W u n hn2
        rw [← HX.out] at hfs
        have hus : (strN u).size = u.length := strN_size _
        have g1 : ¬ ((n : Int) < (q : Int)) := by omega
        have g2 : ¬ ((u.length : Int) < (n : Int)) := by omega
        have d5' : ∀ i : Nat, (convert 29 9 (.slice A5 n c5)).run Try.prog (w5.drewN i) = .ok (.string (strN x)) (w5.drewN i) := fun i => d5 _ (HR5'.out.drewN i)
        have hself : ((strN x).toList == (strN x).toList) = true := beq_self_eq_true _
        clear ho5 hb5 hr5
        go_wp2
        go_quiet (fail)
        obtain ⟨keep1, hk1⟩ : ∃ k1, k1 = IntKind.i64.wrap (keep + 1) := ⟨_, rfl⟩
        have hk2 : -9223372036854775808 ≤ keep1 ∧ keep1 ≤ 9223372036854775807 := by
          have hw := Go.wf_wrap .i64 (keep + 1)
          rw [← hk1] at hw
          have e1 : IntKind.i64.min = -9223372036854775808 := rfl
          have e2 : IntKind.i64.max = 9223372036854775807 := rfl
          simp only [Lit.wf, Bool.and_eq_true, decide_eq_true_eq] at hw
          omega
        have hk1' : IntKind.i64.wrap (keep + 1) = keep1 := hk1.symm
        have HD5 := Lib.hid (HD4.out.below HB5.out)
        have hz5 := HB5.out.size
        clear d5' hfs hk1
        go_wp2_with fail
        have hbn : Below w5.heap.size w5 (w5.drewN nq) := ⟨rfl, rfl, rfl, Nat.le_refl _, fun _ _ => rfl⟩
        have hzn : (w5.drewN nq).heap.size = w5.heap.size := rfl
        refine (restart_ok (HD5.out.below hbn) keep1 hk2 (by simp) (by intro p hp; simp at hp; subst hp; exact ⟨by simp only; rw [HXL.out]; omega, w3⟩) (by omega)).mono ?_
        rintro e w6 ⟨rfl, S6, hd6, hf6, hw6⟩
        have hrs : [((3 : Int), x, n)].map (rst keep1) = [((3 : Int), x, n)] := by
          have := rst_again keep1 3 x
          rw [HXL.out] at this
          simp [this]
        rw [hrs] at hd6
        have hl4 := HD4.out.low
        have HO6 := Lib.hid ((HO5.out.below hbn).fr hf6 (fun g hg hS => by have h1 := HO5.out.rowLt g hg; have h2 := (hl4 g hS).2; omega))
        have HD6 := Lib.hid hd6
        have HB6 := Lib.hid ((HB4.out.trans (HB5.out.mono hz4)).trans ((hbn.mono (by omega)).trans (hf6.below (fun i hi => (hl4 i hi).1) (by omega))))
        have hz6 := HB6.out.size
        clear hd6 hf6 hw6 hrs hl4 hbn
        go_wp2_with fail
        refine (read_ok HD6.out w3 (zs := x) (s := n) (t := true) (by simp [pget]) (by simp [pget]) (by rw [HXL.out]; omega)).mono ?_
        rintro e w7 ⟨v7, rfl, ho7, hb7⟩
        rw [HXL.out] at ho7
        obtain ⟨A7, c7, rfl, _, _, hr7, _⟩ := ho7.form
        obtain ⟨A6, c6, he6, _, _, hr6, _⟩ := (HO6.out.below hb7).form
        injection he6 with he1 he2 he3
        subst he1 he3
        have d7 := str_of w7 A7 n c7 x hr7
        have d6 := str_of w7 A5 n c5 x hr6
        have HB7 := Lib.hid (HB2.out.trans ((HB6.out.trans (hb7.mono hz6)).mono hz2))
        clear ho7 hb7 hr7 hr6 d5
        go_wp2
        go_ret
        exact ⟨rfl, HB7.out⟩
end Go.Proofs.Ytopogffoiofgbaa
