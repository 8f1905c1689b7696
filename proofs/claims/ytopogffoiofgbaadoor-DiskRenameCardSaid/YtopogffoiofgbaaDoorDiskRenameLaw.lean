/-
  DiskRename walked: a file that is renamed is the other one, all at once, safe or not as it was.
-/
import Derived.Test.YtopogffoiofgbaaDoorDiskErr
import Derived.Test.YtopogffoiofgbaaDoorDiskMore
import Derived.Test.YtopogffoiofgbaaDoorRowArg
import Derived.BigQuiet
import Derived.Deep.QuietTactic
namespace Go.Proofs.YtopogffoiofgbaaDoor
open Go Go.RowKit Go.Maps
set_option linter.unusedVariables false

/-- Two files. -/
def duo (X Y : Int) (v : List Nat) (t : Nat) (u : List Nat) (s : Nat) : List PF := if X < Y then [(X, v, t), (Y, u, s)] else [(Y, u, s), (X, v, t)]
section
variable {X Y : Int} (h : X ≠ Y) (v v' u : List Nat) (t t' s : Nat)
include h
theorem duo_new : pput [(Y, u, s)] X v t = duo X Y v t u s := by
  have e1 : (Y == X) = false := by simp; omega
  unfold duo
  by_cases hl : X < Y <;> simp [pput, pdel, pins, e1, hl]
theorem duo_put : pput (duo X Y v t u s) X v' t' = duo X Y v' t' u s := by
  have e1 : (Y == X) = false := by simp; omega
  unfold duo
  by_cases hl : X < Y <;> simp [pput, pdel, pins, e1, hl]
theorem duo_get : pget (duo X Y v t u s) X = some (v, t) := by
  have e1 : (Y == X) = false := by simp; omega
  unfold duo
  by_cases hl : X < Y <;> simp [pget, e1, hl]
theorem duo_del : pdel (duo X Y v t u s) X = [(Y, u, s)] := by
  have e1 : (Y == X) = false := by simp; omega
  unfold duo
  by_cases hl : X < Y <;> simp [pdel, e1, hl]
end
theorem one_get (Y : Int) (u : List Nat) (s : Nat) : pget [(Y, u, s)] Y = some (u, s) := by simp [pget]
theorem one_miss {X Y : Int} (h : X ≠ Y) (u : List Nat) (s : Nat) : pget [(Y, u, s)] X = none := by
  have e1 : (Y == X) = false := by simp; omega
  simp [pget, e1]
theorem one_put (Y : Int) (u u' : List Nat) (s s' : Nat) : pput [(Y, u, s)] Y u' s' = [(Y, u', s')] := by simp [pput, pdel, pins]
theorem one_del (Y : Int) (u : List Nat) (s : Nat) : pdel [(Y, u, s)] Y = [] := by simp [pdel]
theorem none_put (Y : Int) (u : List Nat) (s : Nat) : pput [] Y u s = [(Y, u, s)] := by simp [pput, pdel, pins]
theorem duo_len (X Y : Int) (v u : List Nat) (t s : Nat) : (duo X Y v t u s).length < 1000 := by unfold duo; split <;> simp
theorem rst_whole {keep : Int} {k : Int} {zs : List Nat} {n : Nat} (h : zs.length = n) : [(k, zs, n)].map (rst keep) = [(k, zs, n)] := by
  subst h; simp [rst, Int.emod_one]

set_option maxRecDepth 100000 in
set_option maxHeartbeats 2000000 in
theorem diskRename_walk (w : World) (a : Option Addr) (la ca : Nat) (za : List Int) (ha : IsRow .u8 w a la ca za) (b : Option Addr) (lb cb : Nat) (zb : List Int) (hb : IsRow .u8 w b lb cb zb) (n_ : Int) (hn_ : (Lit.int .u8 n_).wf = true) (m_ : Int) (hm_ : (Lit.int .u8 m_).wf = true) (hh : HasErr w) :
    Calls Tryd.prog 4 #[.slice a la ca, .slice b lb cb, .int .u8 n_, .int .u8 m_] w fun e w' => e = .returned (.bool true) ∧ Below w.heap.size w w' := by
  obtain ⟨p1, rfl, hp1⟩ := u8_nat hn_
  obtain ⟨p2, rfl, hp2⟩ := u8_nat hm_
  obtain ⟨xs0, hra0, hxl0, hxw0, hna, hca⟩ := row_bytes ha
  obtain ⟨ys0, hrb0, hyl0, hyw0, hnb, hcb⟩ := row_bytes hb
  unfold maxLen at hca hcb
  obtain ⟨m, hm⟩ : ∃ m, m = min la 500 := ⟨_, rfl⟩
  obtain ⟨m2, hm2⟩ : ∃ m2, m2 = min lb 500 := ⟨_, rfl⟩
  have hmin := min2_ok (P := Tryd.prog) la 500 m (la : Int) 500 rfl rfl hm
  have hmin2 := min2_ok (P := Tryd.prog) lb 500 m2 (lb : Int) 500 rfl rfl hm2
  have hf1 := fun W => run_front W a la ca m (by omega)
  have hf2 := fun W => run_front W b lb cb m2 (by omega)
  have hra := hra0.front (j := m) (by omega)
  have hrb := hrb0.front (j := m2) (by omega)
  rw [ints_take] at hra hrb
  obtain ⟨xs, hxs⟩ : ∃ xs, xs = xs0.take m := ⟨_, rfl⟩
  obtain ⟨ys, hys⟩ : ∃ ys, ys = ys0.take m2 := ⟨_, rfl⟩
  rw [← hxs] at hra
  rw [← hys] at hrb
  have hxw : ∀ x ∈ xs, x < 256 := fun x hx => hxw0 x (by rw [hxs] at hx; exact List.mem_of_mem_take hx)
  have hyw : ∀ x ∈ ys, x < 256 := fun x hx => hyw0 x (by rw [hys] at hx; exact List.mem_of_mem_take hx)
  have hxl : xs.length = m := by rw [hxs, List.length_take]; omega
  have hyl : ys.length = m2 := by rw [hys, List.length_take]; omega
  have hm5 : m ≤ 500 := by omega
  have hm25 : m2 ≤ 500 := by omega
  obtain ⟨X, hX⟩ : ∃ X, X = p1 % 3 := ⟨_, rfl⟩
  obtain ⟨Y, hY⟩ : ∃ Y, Y = p2 % 3 := ⟨_, rfl⟩
  have hX3 : X < 3 := by omega
  have hY3 : Y < 3 := by omega
  have hXm : (p1 : Int).tmod 3 = (X : Int) := by rw [hX]; rfl
  have hYm : (p2 : Int).tmod 3 = (Y : Int) := by rw [hY]; rfl
  have hXe : (p1 : Int) % 3 = (X : Int) := by omega
  have hYe : (p2 : Int) % 3 = (Y : Int) := by omega
  have wX := wf3 X (by omega)
  have wY := wf3 Y (by omega)
  have w8f : (Lit.int .i64 8).wf = true := wf3 8 (by omega)
  have HRA := Lib.hid hra
  have HRB := Lib.hid hrb
  have HXW := Lib.hid hxw
  have HYW := Lib.hid hyw
  have HXL := Lib.hid hxl
  have HYL := Lib.hid hyl
  have HH := Lib.hid hh
  clear ha hb hra0 hrb0 hxw0 hyw0 hxl0 hyl0 hra hrb hxw hyw hxl hyl hh hxs hys hm hm2 hn_ hm_ hX hY
  go_enter Tryd.func4, Tryd.ntmps4
  go_wp2_with fail
  refine (awake_ok w).mono ?_
  rintro e w1 ⟨rfl, hb1⟩
  have HB1 := Lib.hid hb1
  have hz1 := hb1.size
  clear hb1
  go_wp2
  go_quiet (fail)
  have hbq : Below w1.heap.size w1 (w1.drewN nq) := ⟨rfl, rfl, rfl, Nat.le_refl _, fun _ _ => rfl⟩
  generalize w1.drewN nq = wq at *
  have HBQ := Lib.hid (HB1.out.trans (hbq.mono hz1))
  have hzq := HBQ.out.size
  clear hbq hmin hmin2 hf1 hf2
  go_wp2_with fail
  refine (of_ok 262144 262144 262144 wq rfl rfl).mono ?_
  rintro e w2 ⟨rfl, hd2, hb2⟩
  have HD2 := Lib.hid hd2
  have HB2 := Lib.hid (HBQ.out.trans (hb2.mono hzq))
  have hz2 := hb2.size
  clear hd2 hb2
  go_wp2_with fail
  refine (append_ok HD2.out wY b m2 cb ys (HRB.out.below HB2.out) HYW.out (zs := []) (s := 0) rfl (by omega) (by simp [ptotal]; omega) (by simp) hz2).mono ?_
  rintro e w3 ⟨rfl, hs3⟩
  obtain ⟨S3, hd3, hb3, hz3⟩ := hs3.calm HD2.out hz2
  rw [none_put, List.nil_append] at hd3
  have HD3 := Lib.hid hd3
  have HB3 := Lib.hid (HB2.out.trans (hb3.mono hzq))
  clear hs3 hd3 hb3
  go_wp2_with fail
  refine (sync_ok HD3.out wY (one_get _ _ _) (by simp) hz3).mono ?_
  rintro e w4 ⟨rfl, hs4⟩
  rw [one_put, HYL.out] at hs4
  obtain ⟨S4, hd4, hb4, hz4⟩ := hs4.calm HD3.out hz3
  have HD4 := Lib.hid hd4
  have HB4 := Lib.hid (HB3.out.trans (hb4.mono hzq))
  clear hs4 hd4 hb4
  by_cases hXY : X = Y
  · subst hXY
    have hne : ((X : Int) == (X : Int)) = true := by simp
    have dwb := fun W : World => fun hB : Below w.heap.size w W => str_of W b m2 cb ys (HRB.out.below hB)
    have dwa := fun W : World => fun hB : Below w.heap.size w W => str_of W a m ca xs (HRA.out.below hB)
    have dwb4 := dwb w4 HB4.out
    have dwa4 := dwa w4 HB4.out
    clear dwb dwa
    go_wp2_with fail
    refine (rename_ok HD4.out wX wX (one_get _ _ _) (by simp)).mono ?_
    rintro e wR ⟨rfl, hs5⟩
    rw [one_del, none_put] at hs5
    obtain ⟨SR, hdR, hbR, hzR⟩ := hs5.calm HD4.out hz4
    have HDR := Lib.hid hdR
    have HBR := Lib.hid (HB4.out.trans (hbR.mono hzq))
    clear hs5 hdR hbR dwb4 dwa4
    have dwant := str_of wR b m2 cb ys (HRB.out.below HBR.out)
    go_wp2_with fail
    refine (restart_ok HDR.out 0 (by omega) (by simp) (by intro p hp; simp at hp; subst hp; exact ⟨by simp only; rw [HYL.out]; omega, wX⟩) hzR).mono ?_
    rintro e w6 ⟨rfl, hs6⟩
    rw [rst_whole HYL.out] at hs6
    obtain ⟨S6, hd6, hb6, hz6⟩ := hs6.calm HDR.out hzR
    have HD6 := Lib.hid hd6
    have HB6 := Lib.hid (HBR.out.trans (hb6.mono hzq))
    clear hs6 hd6 hb6 dwant
    go_wp2_with fail
    refine (read_ok HD6.out wX (zs := ys) (s := m2) (t := true) (by rw [one_get]; rfl) (by rw [one_get]; rfl) (by rw [HYL.out]; omega)).mono ?_
    rintro e w7 ⟨v7, rfl, ho7, hb7⟩
    rw [HYL.out] at ho7
    obtain ⟨A7, c7, rfl, _, _, hr7, _⟩ := ho7.form
    have HR7 := Lib.hid hr7
    have HD7 := Lib.hid (HD6.out.below hb7)
    have HB7 := Lib.hid (HB6.out.trans (hb7.mono HB6.out.size))
    clear ho7 hb7 hr7
    go_wp2_with fail
    refine (read_ok HD7.out wX (zs := ys) (s := m2) (t := true) (by rw [one_get]; rfl) (by rw [one_get]; rfl) (by rw [HYL.out]; omega)).mono ?_
    rintro e w8 ⟨v8, rfl, ho8, hb8⟩
    obtain ⟨A8, c8, rfl, _, _, hr8, _⟩ := ho8.form
    have d8 := str_of w8 A7 m2 c7 ys (HR7.out.below hb8)
    have HD8 := Lib.hid (HD7.out.below hb8)
    have HB8 := Lib.hid (HB7.out.trans (hb8.mono HB7.out.size))
    have hself : ((strN ys).toList == (strN ys).toList) = true := beq_self_eq_true _
    clear ho8 hb8 hr8
    go_wp2_with fail
    refine (rename_err HD8.out (k := 8) 1 w8f (one_miss (by omega) _ _)).mono ?_
    rintro e w9 ⟨rfl, hb9⟩
    have HB9 := Lib.hid (HB8.out.trans (hb9.mono HB8.out.size))
    clear hb9
    go_wp2_with fail
    refine (number_err 2 w9 (HH.out.below HB9.out)).mono ?_
    rintro e w10 ⟨rfl, hb10⟩
    have HB10 := Lib.hid (HB9.out.trans (hb10.mono HB9.out.size))
    clear hb10
    go_wp2
    go_ret
    exact ⟨rfl, HB10.out⟩
  · have hXYi : (X : Int) ≠ (Y : Int) := by omega
    have hne : ((X : Int) == (Y : Int)) = false := by simp; omega
    go_wp2_with fail
    refine (append_ok HD4.out wX a m ca xs (HRA.out.below HB4.out) HXW.out (zs := []) (s := 0) (by rw [one_miss hXYi]; rfl) (by omega) (by simp [ptotal, HYL.out]; omega) (by simp) hz4).mono ?_
    rintro e w5 ⟨rfl, hs5⟩
    rw [List.nil_append, duo_new hXYi] at hs5
    obtain ⟨S5, hd5, hb5, hz5⟩ := hs5.calm HD4.out hz4
    have HD5 := Lib.hid hd5
    have HB5 := Lib.hid (HB4.out.trans (hb5.mono hzq))
    clear hs5 hd5 hb5
    go_wp2_with fail
    refine (sync_ok HD5.out wX (duo_get hXYi _ _ _ _) (duo_len _ _ _ _ _ _) hz5).mono ?_
    rintro e w5' ⟨rfl, hs5⟩
    rw [duo_put hXYi, HXL.out] at hs5
    obtain ⟨S5', hd5, hb5, hz5'⟩ := hs5.calm HD5.out hz5
    have HD5' := Lib.hid hd5
    have HB5' := Lib.hid (HB5.out.trans (hb5.mono hzq))
    clear hs5 hd5 hb5
    have dwa5 := str_of w5' a m ca xs (HRA.out.below HB5'.out)
    go_wp2_with fail
    refine (rename_ok HD5'.out wX wY (duo_get hXYi _ _ _ _) (duo_len _ _ _ _ _ _)).mono ?_
    rintro e wR ⟨rfl, hs5⟩
    rw [duo_del hXYi, one_put] at hs5
    obtain ⟨SR, hdR, hbR, hzR⟩ := hs5.calm HD5'.out hz5'
    have HDR := Lib.hid hdR
    have HBR := Lib.hid (HB5'.out.trans (hbR.mono hzq))
    clear hs5 hdR hbR dwa5
    have dwant := str_of wR a m ca xs (HRA.out.below HBR.out)
    go_wp2_with fail
    refine (restart_ok HDR.out 0 (by omega) (by simp) (by intro p hp; simp at hp; subst hp; exact ⟨by simp only; rw [HXL.out]; omega, wY⟩) hzR).mono ?_
    rintro e w6 ⟨rfl, hs6⟩
    rw [rst_whole HXL.out] at hs6
    obtain ⟨S6, hd6, hb6, hz6⟩ := hs6.calm HDR.out hzR
    have HD6 := Lib.hid hd6
    have HB6 := Lib.hid (HBR.out.trans (hb6.mono hzq))
    clear hs6 hd6 hb6 dwant
    go_wp2_with fail
    refine (read_ok HD6.out wY (zs := xs) (s := m) (t := true) (by rw [one_get]; rfl) (by rw [one_get]; rfl) (by rw [HXL.out]; omega)).mono ?_
    rintro e w7 ⟨v7, rfl, ho7, hb7⟩
    rw [HXL.out] at ho7
    obtain ⟨A7, c7, rfl, _, _, hr7, _⟩ := ho7.form
    have HR7 := Lib.hid hr7
    have HD7 := Lib.hid (HD6.out.below hb7)
    have HB7 := Lib.hid (HB6.out.trans (hb7.mono HB6.out.size))
    clear ho7 hb7 hr7
    go_wp2_with fail
    refine (read_ok HD7.out wX (zs := []) (s := 0) (t := false) (by rw [one_miss hXYi]; rfl) (by rw [one_miss hXYi]; rfl) (by simp)).mono ?_
    rintro e w8 ⟨v8, rfl, ho8, hb8⟩
    obtain ⟨A8, c8, rfl, _, _, hr8, _⟩ := ho8.form
    have d8 := str_of w8 A7 m c7 xs (HR7.out.below hb8)
    have HD8 := Lib.hid (HD7.out.below hb8)
    have HB8 := Lib.hid (HB7.out.trans (hb8.mono HB7.out.size))
    have hself : ((strN xs).toList == (strN xs).toList) = true := beq_self_eq_true _
    clear ho8 hb8 hr8
    go_wp2_with fail
    refine (rename_err HD8.out (k := 8) 1 w8f (one_miss (by omega) _ _)).mono ?_
    rintro e w9 ⟨rfl, hb9⟩
    have HB9 := Lib.hid (HB8.out.trans (hb9.mono HB8.out.size))
    clear hb9
    go_wp2_with fail
    refine (number_err 2 w9 (HH.out.below HB9.out)).mono ?_
    rintro e w10 ⟨rfl, hb10⟩
    have HB10 := Lib.hid (HB9.out.trans (hb10.mono HB9.out.size))
    clear hb10
    go_wp2
    go_ret
    exact ⟨rfl, HB10.out⟩
end Go.Proofs.YtopogffoiofgbaaDoor
