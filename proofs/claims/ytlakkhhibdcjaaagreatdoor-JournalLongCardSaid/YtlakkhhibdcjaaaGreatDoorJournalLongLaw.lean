/-
  JournalLong walked: a record that is too long is told, and nothing is laid.
-/
import Derived.Test.YtlakkhhibdcjaaaGreatDoorJourB
import Derived.Test.YtlakkhhibdcjaaaGreatDoorNumber
import Derived.Laws.MakeOwn
namespace Go.Proofs.YtlakkhhibdcjaaaGreatDoor
open Go Go.RowKit Go.Maps
set_option linter.unusedVariables false

set_option maxRecDepth 100000 in
set_option maxHeartbeats 2000000 in
theorem journalLong_walk (w : World) (a_0 : Int) (w_0 : (Lit.int .u16 a_0).wf = true) (b : Option Addr) (lb cb : Nat) (zb : List Int) (hb : IsRow .u8 w b lb cb zb) (hh : HasErr w) :
    Calls Tryz.prog 6 #[.int .u16 a_0, .slice b lb cb] w fun e w' => e = .returned (.bool true) ∧ Below w.heap.size w w' := by
  obtain ⟨a, rfl, ha⟩ := u16_nat w_0
  obtain ⟨ys0, hrb0, hyl0, hyw0, hnb, hcb⟩ := row_bytes hb
  obtain ⟨m, hm⟩ : ∃ m, m = min lb 500 := ⟨_, rfl⟩
  have hmin := min2_ok (P := Tryz.prog) lb 500 m (lb : Int) 500 rfl rfl hm
  have hf1 := fun W => run_front W b lb cb m (by omega)
  have hrb := hrb0.front (j := m) (by omega)
  rw [ints_take] at hrb
  obtain ⟨ys, hys⟩ : ∃ ys, ys = ys0.take m := ⟨_, rfl⟩
  rw [← hys] at hrb
  have hyw : ∀ x ∈ ys, x < 256 := fun x hx => hyw0 x (by rw [hys] at hx; exact List.mem_of_mem_take hx)
  have hyl : ys.length = m := by rw [hys, List.length_take]; omega
  have hm5 : m ≤ 500 := by omega
  have hmc : m ≤ cb := by omega
  have HRB := Lib.hid hrb
  have HYW := Lib.hid hyw
  have HYL := Lib.hid hyl
  have HH := Lib.hid hh
  have HCB := Lib.hid hcb
  unfold maxLen at hcb
  obtain ⟨z, hz⟩ : ∃ z, z = a % 20000 := ⟨_, rfl⟩
  have hze : (a : Int) % 20000 = (z : Int) := by omega
  have hzm : z < 20000 := by omega
  have hmk := run_make_row' (P := Tryz.prog) 34 5 (.int .u8 0) 1 Tryz.underlying34 info_byte rfl .i64 .i64 z (by omega) (by omega)
  clear hb hrb0 hyw0 hyl0 hrb hyw hyl hh hys hm w_0 hz
  go_enter Tryz.func6, Tryz.ntmps6
  go_wp2_with fail
  refine (awake_ok w).mono ?_
  rintro e w1 ⟨rfl, hb1⟩
  have HB1 := Lib.hid hb1
  have hz1 := hb1.size
  clear hb1
  go_wp2_with fail
  refine (of_q 262144 262144 262144 w1 rfl rfl).mono ?_
  rintro e w2 ⟨rfl, hd2, hb2⟩
  have hz2 := hb2.size
  have HD2 := Lib.hid hd2
  have HB2 := Lib.hid (HB1.out.trans (hb2.mono hz1))
  clear hd2 hb2 hmin hf1
  go_wp2_with fail
  refine (open_new HD2.out (by omega) hz2).mono ?_
  rintro e w3 ⟨jb, S3, T3, rfl, hj3, hf3, _, _⟩
  have hb3 : Below w1.heap.size w2 w3 := hf3.below (fun i hi => (HD2.out.low i hi).1) hz2
  have hz3 := hb3.size
  have HJ3 := Lib.hid hj3
  have HB3 := Lib.hid (HB2.out.trans (hb3.mono hz1))
  clear hj3 hf3 hb3
  go_wp2_with fail
  -- what is handed in
  have hjA := (HJ3.out.alloc (.cells (madeCells #[.int .u8 0] z) 5)).alloc (.cells #[.slice b m cb, .slice (some ⟨w3.heap.size, 0, none⟩) z z] 34)
  have hbA : Below w.heap.size w ((w3.alloc (.cells (madeCells #[.int .u8 0] z) 5)).alloc (.cells #[.slice b m cb, .slice (some ⟨w3.heap.size, 0, none⟩) z z] 34)) := (HB3.out.alloc (by omega) _).alloc (by simp; omega) _
  have hrx : Rd .u8 (w3.alloc (.cells (madeCells #[.int .u8 0] z) 5)) (some ⟨w3.heap.size, 0, none⟩) z (ints (List.replicate z 0)) := Rd.made_ w3 z (by unfold maxLen; omega)
  have hrxl : (List.replicate z 0).length = z := List.length_replicate ..
  obtain ⟨xs, hxs⟩ : ∃ xs, xs = List.replicate z 0 := ⟨_, rfl⟩
  have hxw : ∀ x ∈ xs, x < 256 := by intro x hx; rw [hxs] at hx; have := List.eq_of_mem_replicate hx; omega
  rw [← hxs] at hrx hrxl
  have hrows : RdRowsR (fun i => i < w.heap.size ∨ (w3.heap.size ≤ i ∧ i < w3.heap.size + 2)) ((w3.alloc (.cells (madeCells #[.int .u8 0] z) 5)).alloc (.cells #[.slice b m cb, .slice (some ⟨w3.heap.size, 0, none⟩) z z] 34)) (some ⟨w3.heap.size + 1, 0, none⟩) [ys, xs] := by
    have h1 := RdRowsR.made (w := w3.alloc (.cells (madeCells #[.int .u8 0] z) 5)) (R := fun i => i < w.heap.size ∨ (w3.heap.size ≤ i ∧ i < w3.heap.size + 2)) (ns := [ys, xs]) (ty := 34) (fr := (0, 0)) [.slice b m cb, .slice (some ⟨w3.heap.size, 0, none⟩) z z] (fun j u r hu hr => ?_) rfl (.inr (by simp))
    · simpa using h1
    · rcases j with _ | _ | j
      · simp at hu hr
        subst hu hr
        exact ⟨RowAt.of_rd ((HRB.out.below HB3.out).alloc _) hmc HCB.out, (HRB.out.to).wide fun i hi => .inl hi⟩
      · simp at hu hr
        subst hu hr
        refine ⟨RowAt.of_rd hrx (Nat.le_refl _) (by unfold maxLen; omega), fun A' n' c' ad e hn ha => ?_⟩
        injection e with e1
        rw [← e1] at ha
        injection ha with ha
        rw [← ha]
        exact .inr ⟨Nat.le_refl _, by simp⟩
      · simp at hu
  have hfl : (flat [ys, xs]).length = 12 + m + z := by
    simp only [flat_cons, flat_nil, List.length_append, fmk_length, List.length_nil, HYL.out, hrxl]; omega
  have HRX := Lib.hid hrx
  have HRXL := Lib.hid hrxl
  have HXW := Lib.hid hxw
  have HROWS := Lib.hid hrows
  have HFL := Lib.hid hfl
  have HJA := Lib.hid hjA
  have HBA := Lib.hid hbA
  have HLT2 := Lib.hid (show ∀ r ∈ [ys, xs], ∀ x ∈ r, x < 256 by
    intro r hr
    simp at hr
    rcases hr with rfl | rfl
    · exact HYW.out
    · exact hxw)
  clear hrx hxw hrows hfl hjA hbA hxs hrxl hmk
  by_cases hlong : 16384 < z
  · refine (jappend_long HJA.out.jd.jat (some ⟨w3.heap.size + 1, 0, none⟩) 2 2 (ns := [ys, xs]) rfl HROWS.out.rd HLT2.out (by omega) (by rw [HFL.out]; omega) ⟨xs, by simp, by rw [HRXL.out]; exact hlong⟩).mono ?_
    rintro e w4 ⟨rfl, hb4⟩
    have HJ4 := Lib.hid (HJA.out.below hb4)
    have HB4 := Lib.hid (HBA.out.trans (hb4.mono HBA.out.size))
    have HR4 := Lib.hid ((HRX.out.alloc (.cells #[.slice b m cb, .slice (some ⟨w3.heap.size, 0, none⟩) z z] 34)).below hb4)
    have hz4 := HB4.out.size
    clear hb4
    go_wp2_with fail
    refine (number_err 13 w4 (HH.out.below HB4.out)).mono ?_
    rintro e w5 ⟨rfl, hb5⟩
    have HJ5 := Lib.hid (HJ4.out.below hb5)
    have HB5 := Lib.hid (HB4.out.trans (hb5.mono hz4))
    have HR5 := Lib.hid (HR4.out.below hb5)
    have hz5 := HB5.out.size
    clear hb5
    have hsh := shows_any HJ5.out.jd.jat [] (by simp) none 0 0 [] rfl RdStrs.nil (by simp) (by omega) 0 true (by simp)
    rw [strN_none] at hsh
    have HSH := Lib.hid hsh
    clear hsh
    go_wp2_with fail
    refine HSH.out.mono ?_
    rintro e w6 ⟨rfl, hb6⟩
    have HJ6 := Lib.hid (HJ5.out.below hb6)
    have HB6 := Lib.hid (HB5.out.trans (hb6.mono hz5))
    have HR6 := Lib.hid (HR5.out.below hb6)
    have hz6 := HB6.out.size
    clear hb6
    go_wp2_with fail
    refine (used_q HJ6.out.jd.disk (t := 0) (by simp [jf, snapF, recF, ptotal]) rfl).mono ?_
    rintro e w7 ⟨rfl, hb7⟩
    have HJ7 := Lib.hid (HJ6.out.below hb7)
    have HB7 := Lib.hid (HB6.out.trans (hb7.mono hz6))
    have HR7 := Lib.hid (HR6.out.below hb7)
    have hz7 := HB7.out.size
    clear hb7
    go_wp2_with fail
    refine (broken_any HJ7.out.jd.jat).mono ?_
    rintro e w8 ⟨rfl, rfl⟩
    have hsl : 16384 < (snapRec (((0 : Nat) : Int) + 1) xs).length := by
      have e : ((0 : Nat) : Int) + 1 = 1 := by omega
      rw [e, snapRec_one, HRXL.out]; omega
    have HSL := Lib.hid hsl
    clear hsl
    go_wp2_with fail
    refine (jsave_long HJ7.out.jd.jat _ z z HR7.out (by omega) (by omega) HSL.out).mono ?_
    rintro e w9 ⟨rfl, hb9⟩
    have HB9 := Lib.hid (HB7.out.trans (hb9.mono hz7))
    have hz9 := HB9.out.size
    clear hb9
    go_wp2_with fail
    refine (number_err 13 w9 (HH.out.below HB9.out)).mono ?_
    rintro e w10 ⟨rfl, hb10⟩
    have HB10 := Lib.hid (HB9.out.trans (hb10.mono hz9))
    clear hb10
    go_wp2
    go_ret
    exact ⟨rfl, HB10.out⟩
  · have hjo := HJ3.out.out
    refine (append_calm HJA.out (some ⟨w3.heap.size + 1, 0, none⟩) 2 2 (ns := [ys, xs]) rfl HROWS.out (fun i hi => ⟨by simp; omega, ?_⟩) HLT2.out (by omega) ?_ ?_).mono ?_
    · rcases hi with hi | hi
      · intro hjj
        have := (HJA.out.jd.low i hjj).1
        omega
      · exact hjo i hi.1
    · intro r hr
      simp at hr
      rcases hr with rfl | rfl
      · rw [HYL.out]; omega
      · rw [HRXL.out]; omega
    · rw [HFL.out]
      simp [jf, snapF, recF, ptotal]
      omega
    rintro e w4 ⟨rfl, hs4⟩
    obtain ⟨S4, T4, hj4, hf4, hw4⟩ := hs4
    have hb4 := hf4.below (fun i hi => (HJA.out.jd.low i hi).1) HJA.out.base_
    have HJ4 := Lib.hid hj4
    have HB4 := Lib.hid (HBA.out.trans (hb4.mono hz1))
    have hz4 := HB4.out.size
    have hin : ¬ joined S4 T4 w3.heap.size := fun hj => (hw4 _ hj).elim (hjo _ (Nat.le_refl _)) (fun h => by simp at h; omega)
    have hr4 : Rd .u8 w4 (some ⟨w3.heap.size, 0, none⟩) z (ints xs) := (HRX.out.alloc (.cells #[.slice b m cb, .slice (some ⟨w3.heap.size, 0, none⟩) z z] 34)).same fun ad ha hn => by
      injection ha with ha
      rw [← ha]
      exact hf4.block _ (by simp; omega) (hjo _ (Nat.le_refl _))
    have HR4 := Lib.hid hr4
    have hz34 : w3.heap.size + 2 ≤ w4.heap.size := by have := hf4.size; simpa using this
    clear hj4 hb4 hf4 hw4 hr4 hjo
    have d1 := str_of w4 b m cb ys (HRB.out.below HB4.out)
    have d2 := str_of w4 (some ⟨w3.heap.size, 0, none⟩) z z xs HR4.out
    go_wp2_with fail
    have hj5 := HJ4.out.alloc (.cells #[.string (strN ys), .string (strN xs)] 9)
    have hsh := shows_any hj5.jd.jat [] (by simp) (some ⟨w4.heap.size, 0, none⟩) 2 2 [ys, xs] rfl (RdStrs.made [ys, xs]) HLT2.out (by omega) 0 true (by simp)
    rw [strN_none] at hsh
    have HJ5 := Lib.hid hj5
    have HSH := Lib.hid hsh
    have hb5 : Below w.heap.size w (w4.alloc (.cells #[.string (strN ys), .string (strN xs)] 9)) := HB4.out.alloc (by omega) _
    have HB5 := Lib.hid hb5
    clear hj5 hsh d1 d2 hb5
    refine HSH.out.mono ?_
    rintro e w6 ⟨rfl, hb6⟩
    have HJ6 := Lib.hid (HJ5.out.below hb6)
    have HR6 := Lib.hid ((HR4.out.alloc (.cells #[.string (strN ys), .string (strN xs)] 9)).below hb6)
    have HB6 := Lib.hid (HB5.out.trans (hb6.mono HB5.out.size))
    have hz6 := HB6.out.size
    have hz46 : w4.heap.size ≤ w6.heap.size := by have := hb6.size; simp at this; omega
    clear hb6
    by_cases h80 : 16380 < z
    · go_wp2
      go_ret
      exact ⟨rfl, HB6.out⟩
    · have hsl : (snapRec (((0 : Nat) : Int) + 1) xs).length = 1 + z := by
        have e : ((0 : Nat) : Int) + 1 = 1 := by omega
        rw [e, snapRec_one, HRXL.out]
      have HSL := Lib.hid hsl
      clear hsl
      go_wp2_with fail
      refine (save_calm HJ6.out (by omega) (some ⟨w3.heap.size, 0, none⟩) z z (R := fun i => i = w3.heap.size) HR6.out (fun A n c ad e hn ha => by injection e with e1; rw [← e1] at ha; injection ha with ha; rw [← ha]) (fun i hi => ⟨by omega, by rw [hi]; exact hin⟩) HXW.out (by omega) (by rw [HSL.out]; omega) ?_).mono ?_
      · rw [HSL.out]
        have e : ([] : List (List Nat)) ++ [ys, xs] = [ys, xs] := rfl
        rw [jf_total, e]
        simp only [HFL.out]
        simp
        omega
      rintro e w7 ⟨rfl, hs7⟩
      obtain ⟨S7, T7, hj7, hb7⟩ := hs7.base_ HJ6.out
      have HB7 := Lib.hid (HB6.out.trans (hb7.mono hz1))
      clear hs7 hj7 hb7
      go_wp2
      go_ret
      exact ⟨rfl, HB7.out⟩
end Go.Proofs.YtlakkhhibdcjaaaGreatDoor
