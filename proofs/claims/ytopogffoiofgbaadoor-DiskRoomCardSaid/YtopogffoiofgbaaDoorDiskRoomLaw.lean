/-
  DiskRoom walked: no more bytes are there than there is room for.
-/
import Derived.Test.YtopogffoiofgbaaDoorDiskErr
import Derived.Test.YtopogffoiofgbaaDoorRowArg
namespace Go.Proofs.YtopogffoiofgbaaDoor
open Go Go.RowKit Go.Maps
set_option linter.unusedVariables false

set_option maxRecDepth 100000 in
set_option maxHeartbeats 4000000 in
theorem diskRoom_walk (w : World) (room : Int) (hroom : (Lit.int .i64 room).wf = true) (a : Option Addr) (la ca : Nat) (za : List Int) (ha : IsRow .u8 w a la ca za) (ra : ca * 1 ≤ 140737488351232) (b : Option Addr) (lb cb : Nat) (zb : List Int) (hb : IsRow .u8 w b lb cb zb) (rb : cb * 1 ≤ 140737488351232) (hh : HasErr w) :
    Calls Tryd.prog 3 #[.int .i64 room, .slice a la ca, .slice b lb cb] w fun e w' => e = .returned (.bool true) ∧ Below w.heap.size w w' := by
  obtain ⟨xs, hra, hxl, hxw, hna, hca⟩ := row_bytes ha
  obtain ⟨ys, hrb, hyl, hyw, hnb, hcb⟩ := row_bytes hb
  have hla : la ≤ 140737488351232 := by omega
  have hlb : lb ≤ 140737488351232 := by omega
  have w1f : (Lit.int .i64 1).wf = true := wf3 1 (by omega)
  have w2f : (Lit.int .i64 2).wf = true := wf3 2 (by omega)
  obtain ⟨r1, hr1⟩ : ∃ r1, max room 0 = r1 := ⟨_, rfl⟩
  obtain ⟨n, hn⟩ : ∃ n, min r1 262144 = n := ⟨_, rfl⟩
  obtain ⟨m1, hm1⟩ : ∃ m1, min room 262144 = m1 := ⟨_, rfl⟩
  have hm2 : max 0 m1 = n := by omega
  have hn0 : 0 ≤ n ∧ n ≤ 262144 := by omega
  have hmin := min2_at (P := Tryd.prog) room 262144 m1 hm1
  have hmax := max2_at (P := Tryd.prog) 0 m1 n hm2
  have HRA := Lib.hid hra
  have HRB := Lib.hid hrb
  have HXW := Lib.hid hxw
  have HYW := Lib.hid hyw
  have HXL := Lib.hid hxl
  have HYL := Lib.hid hyl
  have HH := Lib.hid hh
  have HR1 := Lib.hid hr1
  have HN := Lib.hid hn
  clear ha hb hra hrb hxw hyw hxl hyl hh hr1 hn hm1 hm2
  go_enter Tryd.func3, Tryd.ntmps3
  go_wp2_with fail
  refine (awake_ok w).mono ?_
  rintro e w1 ⟨rfl, hb1⟩
  have HB1 := Lib.hid hb1
  have hz1 := hb1.size
  clear hb1
  go_wp2_with fail
  refine (of_ok room r1 n w1 HR1.out HN.out).mono ?_
  rintro e w2 ⟨rfl, hd2, hb2⟩
  have HD2 := Lib.hid hd2
  have HB2 := Lib.hid (HB1.out.trans (hb2.mono hz1))
  have hz2 := hb2.size
  clear hd2 hb2
  by_cases hfa : (la : Int) ≤ n
  · go_wp2_with fail
    refine (append_ok HD2.out w1f a la ca xs (HRA.out.below HB2.out) HXW.out (zs := []) (s := 0) rfl (by omega) (by simp [ptotal]; omega) (by simp) hz2).mono ?_
    rintro e w3 ⟨rfl, hs3⟩
    obtain ⟨S3, hd3, hb3, hz3⟩ := hs3.calm HD2.out hz2
    have HD3 := Lib.hid (show DiskP w3 S3 w1.heap.size w1.heap.size n [(1, xs, 0)] from hd3)
    have HB3 := Lib.hid (HB2.out.trans (hb3.mono hz1))
    clear hs3 hd3 hb3
    have htp : ptotal [((1 : Int), xs, 0)] = la := by simp [ptotal, HXL.out]
    have hzw := HB3.out.size
    go_wp2_with fail
    refine (used_ok HD3.out (by rw [htp]; omega) htp).mono ?_
    rintro e w4 ⟨rfl, hb4⟩
    have HD4 := Lib.hid (HD3.out.below hb4)
    have HB4 := Lib.hid (HB3.out.trans (hb4.mono hzw))
    have hz4 : w1.heap.size ≤ w4.heap.size := Nat.le_trans hz3 hb4.size
    clear hb4
    by_cases hfb : (la : Int) + (lb : Int) ≤ n
    · go_wp2_with fail
      refine (append_ok HD4.out w2f b lb cb ys (HRB.out.below HB4.out) HYW.out (zs := []) (s := 0) rfl (by omega) (by rw [htp]; omega) (by simp) hz4).mono ?_
      rintro e w5 ⟨rfl, hs5⟩
      obtain ⟨S5, hd5, hb5, hz5⟩ := hs5.calm HD4.out hz4
      have HD5 := Lib.hid (show DiskP w5 S5 w1.heap.size w1.heap.size n [((1 : Int), xs, 0), (2, ys, 0)] from hd5)
      have HB5 := Lib.hid (HB4.out.trans (hb5.mono hz1))
      have hzw5 := HB5.out.size
      have htp5 : ptotal [((1 : Int), xs, 0), (2, ys, 0)] = la + lb := by simp [ptotal, HYL.out, HXL.out]
      clear hs5 hd5 hb5
      have hcs : ((la + lb : Nat) : Int) ≤ n := by omega
      go_wp2_with (go_at_call 11; refine (used_ok HD5.out (by rw [htp5]; omega) htp5).mono ?_; rintro e w6 ⟨rfl, hb6⟩)
      have HB6 := Lib.hid (HB5.out.trans (hb6.mono hzw5))
      clear hb6
      go_wp2
      go_ret
      exact ⟨rfl, HB6.out⟩
    · go_wp2_with fail
      refine (append_no HD4.out 2 b lb cb hn0 (by rw [htp]; omega) (by omega) (by rw [htp]; omega)).mono ?_
      rintro e w5 ⟨rfl, hb5⟩
      have HD5 := Lib.hid (HD4.out.below hb5)
      have HB5 := Lib.hid (HB4.out.trans (hb5.mono HB4.out.size))
      have hzw5 := HB5.out.size
      clear hb5
      have hdec : decide ((la : Int) + (lb : Int) ≤ n) = false := by simp; omega
      go_wp2_with fail
      refine (used_ok HD5.out (by rw [htp]; omega) htp).mono ?_
      rintro e w6 ⟨rfl, hb6⟩
      have HD6 := Lib.hid (HD5.out.below hb6)
      have HB6 := Lib.hid (HB5.out.trans (hb6.mono hzw5))
      have hzw6 := HB6.out.size
      clear hb6
      go_wp2_with fail
      refine (used_ok HD6.out (by rw [htp]; omega) htp).mono ?_
      rintro e w7 ⟨rfl, hb7⟩
      have HB7 := Lib.hid (HB6.out.trans (hb7.mono hzw6))
      clear hb7
      go_wp2
      go_ret
      exact ⟨rfl, HB7.out⟩
  · go_wp2_with fail
    refine (append_no HD2.out 1 a la ca hn0 (by simp [ptotal]; omega) (by omega) (by simp [ptotal]; omega)).mono ?_
    rintro e w2' ⟨rfl, hb3⟩
    have HDa := Lib.hid (HD2.out.below hb3)
    have HBa := Lib.hid (HB2.out.trans (hb3.mono HB2.out.size))
    have hza : w1.heap.size ≤ w2'.heap.size := Nat.le_trans hz2 hb3.size
    clear hb3
    go_wp2_with fail
    refine (number_err 8 w2' (HH.out.below HBa.out)).mono ?_
    rintro e w2b ⟨rfl, hb3⟩
    have HDb := Lib.hid (HDa.out.below hb3)
    have HBb := Lib.hid (HBa.out.trans (hb3.mono HBa.out.size))
    have hzb : w1.heap.size ≤ w2b.heap.size := Nat.le_trans hza hb3.size
    clear hb3
    go_wp2_with fail
    refine (names_ok HDb.out (by simp)).mono ?_
    rintro e w3 ⟨v3, rfl, ho3, hb3⟩
    obtain ⟨A3, c3, rfl, _, _, _, _⟩ := ho3.form
    have HD3 := Lib.hid (HDb.out.below hb3)
    have HB3 := Lib.hid (HBb.out.trans (hb3.mono HBb.out.size))
    have hz3 : w1.heap.size ≤ w3.heap.size := Nat.le_trans hzb hb3.size
    clear ho3 hb3
    have htp : ptotal [] = 0 := by simp [ptotal]
    have hzw := HB3.out.size
    go_wp2_with fail
    refine (used_ok HD3.out (by rw [htp]; omega) htp).mono ?_
    rintro e w4 ⟨rfl, hb4⟩
    have HD4 := Lib.hid (HD3.out.below hb4)
    have HB4 := Lib.hid (HB3.out.trans (hb4.mono hzw))
    have hz4 : w1.heap.size ≤ w4.heap.size := Nat.le_trans hz3 hb4.size
    clear hb4
    by_cases hfb : (0 : Int) + (lb : Int) ≤ n
    · go_wp2_with fail
      refine (append_ok HD4.out w2f b lb cb ys (HRB.out.below HB4.out) HYW.out (zs := []) (s := 0) rfl (by omega) (by rw [htp]; omega) (by simp) hz4).mono ?_
      rintro e w5 ⟨rfl, hs5⟩
      obtain ⟨S5, hd5, hb5, hz5⟩ := hs5.calm HD4.out hz4
      have HD5 := Lib.hid (show DiskP w5 S5 w1.heap.size w1.heap.size n [((2 : Int), ys, 0)] from hd5)
      have HB5 := Lib.hid (HB4.out.trans (hb5.mono hz1))
      have hzw5 := HB5.out.size
      have htp5 : ptotal [((2 : Int), ys, 0)] = 0 + lb := by simp [ptotal, HYL.out]
      clear hs5 hd5 hb5
      have hcs : ((0 + lb : Nat) : Int) ≤ n := by omega
      go_wp2_with (go_at_call 11; refine (used_ok HD5.out (by rw [htp5]; omega) htp5).mono ?_; rintro e w6 ⟨rfl, hb6⟩)
      have HB6 := Lib.hid (HB5.out.trans (hb6.mono hzw5))
      clear hb6
      go_wp2
      go_ret
      exact ⟨rfl, HB6.out⟩
    · go_wp2_with fail
      refine (append_no HD4.out 2 b lb cb hn0 (by rw [htp]; omega) (by omega) (by rw [htp]; omega)).mono ?_
      rintro e w5 ⟨rfl, hb5⟩
      have HD5 := Lib.hid (HD4.out.below hb5)
      have HB5 := Lib.hid (HB4.out.trans (hb5.mono HB4.out.size))
      have hzw5 := HB5.out.size
      clear hb5
      have hdec : decide ((lb : Int) ≤ n) = false := by simp; omega
      go_wp2_with fail
      refine (used_ok HD5.out (by rw [htp]; omega) htp).mono ?_
      rintro e w6 ⟨rfl, hb6⟩
      have HD6 := Lib.hid (HD5.out.below hb6)
      have HB6 := Lib.hid (HB5.out.trans (hb6.mono hzw5))
      have hzw6 := HB6.out.size
      clear hb6
      go_wp2_with fail
      refine (used_ok HD6.out (by rw [htp]; omega) htp).mono ?_
      rintro e w7 ⟨rfl, hb7⟩
      have HB7 := Lib.hid (HB6.out.trans (hb7.mono hzw6))
      clear hb7
      go_wp2
      go_ret
      exact ⟨rfl, HB7.out⟩
end Go.Proofs.YtopogffoiofgbaaDoor
