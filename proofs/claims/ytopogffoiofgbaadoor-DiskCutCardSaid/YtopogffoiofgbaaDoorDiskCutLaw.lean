/-
  DiskCut walked: what is cut off is gone, what is left is safe, and more is laid behind it.
-/
import Derived.Test.YtopogffoiofgbaaDoorDiskErr
import Derived.Test.YtopogffoiofgbaaDoorDiskMore
import Derived.Test.YtopogffoiofgbaaDoorRowArg
import Derived.BigQuiet
import Derived.Deep.QuietTactic
import Derived.Deep.RegionHeld3
namespace Go.Proofs.YtopogffoiofgbaaDoor
open Go Go.RowKit Go.Maps
set_option linter.unusedVariables false

theorem i8_in {x : Int} (h : (Lit.int .i8 x).wf = true) : -128 ≤ x ∧ x ≤ 127 := by
  have e1 : IntKind.i8.min = -128 := rfl
  have e2 : IntKind.i8.max = 127 := rfl
  simp only [Lit.wf, Bool.and_eq_true, decide_eq_true_eq] at h
  omega
theorem run_front8 (W : World) (A : Option Addr) (n c k : Nat) (hk : k ≤ c) : (Instr.sliceAt 22 (.slice A n c) none (some (.int .i8 (k : Int))) none).run Tryd.prog W = .ok (.slice A k c) W := by
  rw [run_sliceAt_slice _ _ _ _ _ _ byte_slice, run_slice_h W _ _ _ _ byte_slice _ _ (by omega) (by omega), byte_size]
  have e : (A.map fun x => x.add 0) = A := by cases A <;> simp [Addr.add]
  simp [Result.andThen, sliced, e]
theorem rst_all {keep : Int} {k : Int} {zs : List Nat} {n : Nat} (h : zs.length = n) : rst keep (k, zs, n) = (k, zs, n) := by
  subst h; simp [rst, Int.emod_one]

set_option maxRecDepth 100000 in
set_option maxHeartbeats 1000000 in
theorem diskCut_walk (w : World) (a : Option Addr) (la ca : Nat) (za : List Int) (ha : IsRow .u8 w a la ca za) (n_ : Int) (hn_ : (Lit.int .i8 n_).wf = true) (b : Option Addr) (lb cb : Nat) (zb : List Int) (hb : IsRow .u8 w b lb cb zb) (hh : HasErr w) :
    Calls Tryd.prog 5 #[.slice a la ca, .int .i8 n_, .slice b lb cb] w fun e w' => e = .returned (.bool true) ∧ Below w.heap.size w w' := by
  obtain ⟨xs0, hra0, hxl0, hxw0, hna, hca⟩ := row_bytes ha
  obtain ⟨ys0, hrb0, hyl0, hyw0, hnb, hcb⟩ := row_bytes hb
  unfold maxLen at hca hcb
  have hn8 := i8_in hn_
  have w5f : (Lit.int .i64 5).wf = true := wf3 5 (by omega)
  have w6f : (Lit.int .i64 6).wf = true := wf3 6 (by omega)
  obtain ⟨m, hm⟩ : ∃ m, m = min la 500 := ⟨_, rfl⟩
  obtain ⟨m2, hm2⟩ : ∃ m2, m2 = min lb 500 := ⟨_, rfl⟩
  have hmin := min2_ok (P := Tryd.prog) la 500 m (la : Int) 500 rfl rfl hm
  have hmin2 := min2_ok (P := Tryd.prog) lb 500 m2 (lb : Int) 500 rfl rfl hm2
  have hf1 := fun W => run_front W a la ca m (by omega)
  have hf2 := fun W => run_front W b lb cb m2 (by omega)
  have hra := hra0.front (j := m) (by omega)
  have hrb := hrb0.front (j := m2) (by omega)
  rw [ints_take] at hra hrb
  obtain ⟨xs, hxs⟩ : ∃ xs, xs = xs0.take m := ⟨_, rfl⟩
  obtain ⟨ys, hys⟩ : ∃ ys, ys = ys0.take m2 := ⟨_, rfl⟩
  rw [← hxs] at hra
  rw [← hys] at hrb
  have hxw : ∀ x ∈ xs, x < 256 := fun x hx => hxw0 x (by rw [hxs] at hx; exact List.mem_of_mem_take hx)
  have hyw : ∀ x ∈ ys, x < 256 := fun x hx => hyw0 x (by rw [hys] at hx; exact List.mem_of_mem_take hx)
  have hxl : xs.length = m := by rw [hxs, List.length_take]; omega
  have hyl : ys.length = m2 := by rw [hys, List.length_take]; omega
  have hm5 : m ≤ 500 := by omega
  have hm25 : m2 ≤ 500 := by omega
  have hmc : m ≤ ca := by omega
  have HRA := Lib.hid hra
  have HRB := Lib.hid hrb
  have HXW := Lib.hid hxw
  have HYW := Lib.hid hyw
  have HXL := Lib.hid hxl
  have HYL := Lib.hid hyl
  have HH := Lib.hid hh
  clear ha hb hra0 hrb0 hxw0 hyw0 hxl0 hyl0 hra hrb hxw hyw hxl hyl hh hxs hys hm hm2 hn_
  go_enter Tryd.func5, Tryd.ntmps5
  go_wp2_with fail
  refine (awake_ok w).mono ?_
  rintro e w1 ⟨rfl, hb1⟩
  have HB1 := Lib.hid hb1
  have hz1 := hb1.size
  clear hb1
  go_wp2
  go_quiet (fail)
  have hbq : Below w1.heap.size w1 (w1.drewN nq) := ⟨rfl, rfl, rfl, Nat.le_refl _, fun _ _ => rfl⟩
  generalize w1.drewN nq = wq at *
  have HBQ := Lib.hid (HB1.out.trans (hbq.mono hz1))
  have hzq := HBQ.out.size
  clear hbq hmin hmin2 hf1 hf2
  go_wp2_with fail
  refine (of_ok 262144 262144 262144 wq rfl rfl).mono ?_
  rintro e w2 ⟨rfl, hd2, hb2⟩
  have HD2 := Lib.hid hd2
  have HB2 := Lib.hid (HBQ.out.trans (hb2.mono hzq))
  have hz2 := hb2.size
  clear hd2 hb2
  go_wp2_with fail
  refine (append_ok HD2.out w5f a m ca xs (HRA.out.below HB2.out) HXW.out (zs := []) (s := 0) rfl (by omega) (by simp [ptotal]; omega) (by simp) hz2).mono ?_
  rintro e w3 ⟨rfl, hs3⟩
  obtain ⟨S3, hd3, hb3, hz3⟩ := hs3.calm HD2.out hz2
  have HD3 := Lib.hid (show DiskP w3 S3 wq.heap.size wq.heap.size 262144 [(5, xs, 0)] from hd3)
  have HB3 := Lib.hid (HB2.out.trans (hb3.mono hzq))
  clear hs3 hd3 hb3
  by_cases hbad : n_ < 0 ∨ (m : Int) < n_
  · have hbx : n_ < 0 ∨ (xs.length : Int) < n_ := by rw [HXL.out]; exact hbad
    go_wp2_with fail
    refine (cut_bad HD3.out w5f (zs := xs) (s := 0) rfl n_ hbx).mono ?_
    rintro e w4 ⟨rfl, hb4⟩
    have HD4 := Lib.hid (HD3.out.below hb4)
    have HB4 := Lib.hid (HB3.out.trans (hb4.mono HB3.out.size))
    clear hb4 hbx
    have hguard : (n_ < 0) ∨ (¬ n_ < 0 ∧ (m : Int) < n_) := by omega
    clear hbad
    rcases hguard with hg | ⟨hg, hg'⟩
    all_goals
      go_wp2_with fail
      refine (read_ok HD4.out w5f (zs := xs) (s := 0) (t := true) rfl rfl (by rw [HXL.out]; omega)).mono ?_
      rintro e w5 ⟨v5, rfl, ho5, hb5⟩
      rw [HXL.out] at ho5
      obtain ⟨A5, c5, rfl, _, _, hr5, _⟩ := ho5.form
      have HR5 := Lib.hid hr5
      have HB5 := Lib.hid (HB4.out.trans (hb5.mono HB4.out.size))
      clear ho5 hb5 hr5
      go_wp2_with fail
      refine (number_err 13 w5 (HH.out.below HB5.out)).mono ?_
      rintro e w6 ⟨rfl, hb6⟩
      have d1 := str_of w6 A5 m c5 xs (HR5.out.below hb6)
      have d2 := str_of w6 a m ca xs ((HRA.out.below HB5.out).below hb6)
      have HB6 := Lib.hid (HB5.out.trans (hb6.mono HB5.out.size))
      clear hb6
      go_wp2
      go_ret
      exact ⟨rfl, HB6.out⟩
  · obtain ⟨t, rfl⟩ : ∃ t : Nat, n_ = (t : Int) := ⟨n_.toNat, by omega⟩
    have htm : t ≤ m := by omega
    have g1 : ¬ ((t : Int) < 0) := by omega
    have g2 : ¬ ((m : Int) < (t : Int)) := by omega
    obtain ⟨zs, hzs⟩ : ∃ zs, xs.take t = zs := ⟨_, rfl⟩
    have hzl : zs.length = t := by rw [← hzs, List.length_take, HXL.out]; omega
    have HZS := Lib.hid hzs
    have HZL := Lib.hid hzl
    clear hbad hzs hzl
    go_wp2_with fail
    refine (cut_ok HD3.out w5f (zs := xs) (s := 0) rfl t (by rw [HXL.out]; exact htm) (by rw [HXL.out]; omega) (by simp) hz3).mono ?_
    rintro e w4 ⟨rfl, hs4⟩
    obtain ⟨S4, hd4, hb4, hz4⟩ := hs4.calm HD3.out hz3
    rw [HZS.out] at hd4
    have HD4 := Lib.hid (show DiskP w4 S4 wq.heap.size wq.heap.size 262144 [(5, zs, t)] from hd4)
    have HB4 := Lib.hid (HB3.out.trans (hb4.mono hzq))
    clear hs4 hd4 hb4
    go_wp2_with fail
    refine (restart_ok HD4.out 0 (by omega) (by simp) (by intro p hp; simp at hp; subst hp; exact ⟨by simp only; rw [HZL.out]; omega, w5f⟩) hz4).mono ?_
    rintro e w5 ⟨rfl, hs5⟩
    have hrs : [((5 : Int), zs, t)].map (rst 0) = [((5 : Int), zs, t)] := by simp [rst_all HZL.out]
    rw [hrs] at hs5
    obtain ⟨S5, hd5, hb5, hz5⟩ := hs5.calm HD4.out hz4
    have HD5 := Lib.hid hd5
    have HB5 := Lib.hid (HB4.out.trans (hb5.mono hzq))
    clear hs5 hd5 hb5 hrs
    go_wp2_with fail
    refine (read_ok HD5.out w5f (zs := zs) (s := t) (t := true) rfl rfl (by rw [HZL.out]; omega)).mono ?_
    rintro e w6 ⟨v6, rfl, ho6, hb6⟩
    rw [HZL.out] at ho6
    obtain ⟨A6, c6, rfl, _, _, hr6, _⟩ := ho6.form
    have HO6 := Lib.hid ho6
    have HD6 := Lib.hid (HD5.out.below hb6)
    have HB6 := Lib.hid (HB5.out.trans (hb6.mono HB5.out.size))
    have hz6 : wq.heap.size ≤ w6.heap.size := Nat.le_trans hz5 hb6.size
    have hrt : Rd .u8 w a t (ints zs) := by rw [← HZS.out, ← ints_take]; exact HRA.out.front htm
    have HRT := Lib.hid hrt
    have hf8 := fun W => run_front8 W a m ca t (by omega)
    have d1 : (convert 22 9 (.slice A6 t c6)).run Tryd.prog w6.drew = .ok (.string (strN zs)) w6.drew := str_of _ A6 t c6 zs hr6.drew
    have d2 : (convert 22 9 (.slice a t ca)).run Tryd.prog w6.drew = .ok (.string (strN zs)) w6.drew := str_of _ a t ca zs (HRT.out.below HB6.out).drew
    have hself : ((strN zs).toList == (strN zs).toList) = true := beq_self_eq_true _
    clear ho6 hb6 hr6 hrt
    go_wp2
    have hSA : (convert 22 9 (.slice A6 t c6)).run Tryd.prog w6.drew = .ok (.string (strN zs)) w6.drew ∧ (convert 22 9 (.slice a t ca)).run Tryd.prog w6.drew = .ok (.string (strN zs)) w6.drew := ⟨d1, d2⟩
    clear d1 d2
    go_region_held3 (fun w' => (convert 22 9 (.slice A6 t c6)).run Tryd.prog w' = .ok (.string (strN zs)) w' ∧ (convert 22 9 (.slice a t ca)).run Tryd.prog w' = .ok (.string (strN zs)) w') (first | exact hS1 | exact hSA)
      (first
        | (go_at_call 8; refine (append_ok (HD6.out.below (Below.refl _ _).drew) w5f b m2 cb ys ((HRB.out.below HB6.out).drew) HYW.out (zs := zs) (s := t) rfl (by omega) (by simp [ptotal, HZL.out]; omega) (by simp) hz6).mono ?_; rintro e w7 ⟨rfl, hs7⟩
           obtain ⟨S7, hd7, hf7, hw7⟩ := hs7
           have hb7 : Below wq.heap.size w6.drew w7 := hf7.below (fun i hi => (HD6.out.low i hi).1) hz6
           have ho7 := (HO6.out.below ((Below.refl _ _).drew)).fr hf7 (fun g hg hS => by have h1 := HO6.out.rowLt g hg; have h2 := (HD5.out.low g hS).2; omega)
           have hB7 : Below w.heap.size w w7 := HB6.out.drew.trans (hb7.mono hzq)
           obtain ⟨A7, c7, he7, _, _, hr7, _⟩ := ho7.form
           injection he7 with e1 e2 e3
           subst e1 e3
           have hS1 : (convert 22 9 (.slice A6 t c6)).run Tryd.prog w7 = .ok (.string (strN zs)) w7 ∧ (convert 22 9 (.slice a t ca)).run Tryd.prog w7 = .ok (.string (strN zs)) w7 := ⟨str_of _ A6 t c6 zs hr7, str_of _ a t ca zs (HRT.out.below hB7)⟩
           have HD7 := Lib.hid (show DiskP w7 S7 wq.heap.size wq.heap.size 262144 [(5, zs ++ ys, t)] from hd7)
           have HB7 := Lib.hid hB7
           have hz7 : wq.heap.size ≤ w7.heap.size := Nat.le_trans hz6 hf7.size
           clear hd7 hf7 hw7 hb7 ho7 hB7 hr7))
    clear hSA hS1
    go_wp2_with fail
    refine (read_ok HD7.out w5f (zs := zs ++ ys) (s := t) (t := true) rfl rfl (by rw [List.length_append, HZL.out, HYL.out]; omega)).mono ?_
    rintro e w8 ⟨v8, rfl, ho8, hb8⟩
    obtain ⟨q, hq⟩ : ∃ q, zs ++ ys = q := ⟨_, rfl⟩
    have hql : q.length = t + m2 := by rw [← hq, List.length_append, HZL.out, HYL.out]
    rw [hq, hql] at ho8
    obtain ⟨A8, c8, rfl, _, _, hr8, _⟩ := ho8.form
    have HD8 := Lib.hid (HD7.out.below hb8)
    have HB8 := Lib.hid (HB7.out.trans (hb8.mono HB7.out.size))
    have hcat : strN zs ++ strN ys = strN q := by rw [strN_append, hq]
    have hss : ¬ 9223372036854775807 < (strN zs).size + (strN ys).size := by rw [strN_size, strN_size, HZL.out, HYL.out]; omega
    have hselfq : ((strN q).toList == (strN q).toList) = true := beq_self_eq_true _
    have d1 := fun p : After w8 => str_of p.world A8 (t + m2) c8 q (hr8.below p.below)
    have d2 := fun p : After w8 => str_of p.world a t ca zs ((HRT.out.below HB8.out).below p.below)
    have d3 := fun p : After w8 => str_of p.world b m2 cb ys ((HRB.out.below HB8.out).below p.below)
    have k1 := fun p : After w8 => after_call p (cut_err (HD8.out.below p.below) (k := 6) 0 w6f rfl)
    have k2 := fun p : After w8 => after_call p (number_err 2 p.world ((HH.out.below HB8.out).below p.below))
    clear ho8 hb8 hr8 hq hql hself
    go_wp2
    refine wp_region_after (by kernel_rfl) (by kernel_rfl) ?_
    repeat (go_big_quiet_step (first | (go_at_call 16; exact k1 _) | (go_at_call 9; exact k2 _)))
    refine wpQuiet_nil ?_
    intro _ hw'
    obtain ⟨p, rfl⟩ := hw'
    have HB9 := Lib.hid (HB8.out.trans (p.below.mono HB8.out.size))
    clear d1 d2 d3 k1 k2
    go_wp2
    go_ret
    exact ⟨rfl, HB9.out⟩
end Go.Proofs.YtopogffoiofgbaaDoor
