/-
  The statement PaymentParts by its walk.
-/
import Derived.Test.YtenghafnpmlbnaaDoorPayAwake
import Derived.Test.YtenghafnpmlbnaaDoorPaid
import Derived.Test.YtenghafnpmlbnaaDoorPayCells
import Derived.Test.YtenghafnpmlbnaaDoorPayParts
import Derived.Test.YtenghafnpmlbnaaDoorArgNat
import Derived.BigQuiet
import Derived.Deep.QuietTactic
namespace Go.Proofs.YtenghafnpmlbnaaDoor
open Go Go.RowKit
set_option linter.unusedVariables false

theorem payR_err {p : Py} {op n : Int} (h : ¬ payE p op n = 0) : payR p op n = Py.zero := by unfold payR; rw [if_neg h]

set_option maxRecDepth 100000 in
set_option maxHeartbeats 1000000 in
theorem paymentParts_4_bad (w : World) (z : Pd) (hz : z.fits) (a b o : Nat) (ha : a < 256) (hb : b < 256) (ho : o < 256) (hk : (o : Int) % 3 = 0) (hh : HasErr w) (q : Py) (hq : q = z.pay) (hE1 : ¬ payE q 4 (1 + (a : Int)) = 0) (hE : ¬ payE q 4 (1 + (a : Int) + (1 + (b : Int))) = 0) :
    Calls Tryd.prog 6 #[z.val, .int .u8 (a : Int), .int .u8 (b : Int), .int .u8 (o : Int)] w fun e w' => e = .returned (.bool true) ∧ Below w.heap.size w w' := by
  have HA := Lib.hid (fun W => paid_any z hz W)
  rw [← hq] at HA
  have HW := Lib.hid (fun W => do_any q 4 (1 + (a : Int) + (1 + (b : Int))) W)
  have HO := Lib.hid (fun W => do_any q 4 (1 + (a : Int)) W)
  rw [payR_err hE] at HW
  rw [payR_err hE1] at HO
  obtain ⟨eHW, hHW⟩ : ∃ x, payE q 4 (1 + (a : Int) + (1 + (b : Int))) = x := ⟨_, rfl⟩
  rw [hHW] at HW hE
  obtain ⟨eHO, hHO⟩ : ∃ x, payE q 4 (1 + (a : Int)) = x := ⟨_, rfl⟩
  rw [hHO] at HO hE1
  unfold PayRes Py.val Py.zero errV at HW
  rw [if_neg hE] at HW
  unfold PayRes Py.val Py.zero errV at HO
  rw [if_neg hE1] at HO
  obtain ⟨qf, qd, qa, qc, qr, qg, qt, qs⟩ := q
  dsimp only at HW HO
  clear hHO hHW hE1 hE
  obtain ⟨zf, zt, za, zc, zr, zg, zu, zl⟩ := z
  unfold PyRes Py.val at HA
  unfold Pd.val at HA ⊢
  dsimp only at HA ⊢
  have H1 := Lib.hid (Pd8.new w zf zt za zc zr zg zu zl)
  have HB0 := Lib.hid ((Below.refl w.heap.size w).alloc (Nat.le_refl _) (.cells #[.int .u8 (zf : Int), .int .u8 (zt : Int), .int .u8 (za : Int), .int .u8 (zc : Int), .int .u8 (zr : Int), .int .u8 (zg : Int), .int .u8 (zu : Int), .bool zl] 23))
  have HP := Lib.hid (pawake_ok (w.alloc (.cells #[.int .u8 (zf : Int), .int .u8 (zt : Int), .int .u8 (za : Int), .int .u8 (zc : Int), .int .u8 (zr : Int), .int .u8 (zg : Int), .int .u8 (zu : Int), .bool zl] 23)) (hh.below HB0.out))
  have HH := Lib.hid hh
  clear hq hz hh
  go_enter Tryd.func6, Tryd.ntmps6
  go_wp2_with fail
  refine HP.out.mono ?_
  rintro _ w1 ⟨rfl, hb1⟩
  obtain ⟨x0, x1, x2, x3, x4, x5, x6, x7⟩ := (H1.out.below hb1 (by simp)).cells
  have HB1 := Lib.hid (HB0.out.trans (hb1.mono (by simp)))
  clear hb1 H1 HB0 HP
  go_wp2_with fail
  refine (HA.out _).mono ?_
  rintro _ w2 ⟨rfl, hb2⟩
  have HX2 := Lib.hid (Py8.new w2 28 qf qd qa qc qr qg qt qs)
  have HB2 := Lib.hid ((HB1.out.trans (hb2.mono HB1.out.size)).alloc (Nat.le_trans HB1.out.size hb2.size) (.cells #[.int .i64 qf, .int .i64 qd, .int .i64 qa, .int .i64 qc, .int .i64 qr, .int .i64 qg, .int .i64 qt, .int .i64 qs] 28))
  clear x0 x1 x2 x3 x4 x5 x6 x7 hb2 HB1 HA
  have HX2b := Lib.hid (HX2.out.alloc (.cells #[.int .i64 4, .int .i64 6, .int .i64 7] 35) (by simp))
  have HB2b := Lib.hid (HB2.out.alloc (by have := HB2.out.size; omega) (.cells #[.int .i64 4, .int .i64 6, .int .i64 7] 35))
  clear HX2 HB2
  go_wp2_with fail
  refine (HW.out _).mono ?_
  rintro _ w3 ⟨rfl, hb3⟩
  have hz3 : w2.heap.size + 1 < w3.heap.size := by have := hb3.size; simp at this; omega
  have HX3 := Lib.hid ((HX2b.out.below hb3 (by simp; omega)).alloc (.cells #[.int .i64 0, .int .i64 0, .int .i64 0, .int .i64 0, .int .i64 0, .int .i64 0, .int .i64 0, .int .i64 0] 28) (by omega))
  obtain ⟨x0, x1, x2, x3, x4, x5, x6, x7⟩ := (HX2b.out.below hb3 (by simp; omega)).cells
  replace hz3 : w2.heap.size < w3.heap.size := by omega
  have HV3 := Lib.hid (Py8.new w3 28 0 0 0 0 0 0 0 0)
  have HB3 := Lib.hid ((HB2b.out.trans (hb3.mono HB2b.out.size)).alloc (Nat.le_trans HB2b.out.size hb3.size) (.cells #[.int .i64 0, .int .i64 0, .int .i64 0, .int .i64 0, .int .i64 0, .int .i64 0, .int .i64 0, .int .i64 0] 28))
  clear hb3 HB2b HX2b HW
  go_wp2_with fail
  refine (HO.out _).mono ?_
  rintro _ w4 ⟨rfl, hb4⟩
  clear x0 x1 x2 x3 x4 x5 x6 x7
  have hz4 : w3.heap.size < w4.heap.size := by have := hb4.size; simp at this; omega
  have HV4 := Lib.hid ((HV3.out.below hb4 (by simp)).alloc (.cells #[.int .i64 0, .int .i64 0, .int .i64 0, .int .i64 0, .int .i64 0, .int .i64 0, .int .i64 0, .int .i64 0] 28) hz4)
  have HY4 := Lib.hid (Py8.new w4 28 0 0 0 0 0 0 0 0)
  have HB4 := Lib.hid ((HB3.out.trans (hb4.mono HB3.out.size)).alloc (Nat.le_trans HB3.out.size hb4.size) (.cells #[.int .i64 0, .int .i64 0, .int .i64 0, .int .i64 0, .int .i64 0, .int .i64 0, .int .i64 0, .int .i64 0] 28))
  clear hb4 HB3 HV3 HO
  go_wp2
  go_ret
  exact ⟨rfl, HB4.out⟩

set_option maxRecDepth 100000 in
set_option maxHeartbeats 1000000 in
theorem paymentParts_4_none (w : World) (z : Pd) (hz : z.fits) (a b o : Nat) (ha : a < 256) (hb : b < 256) (ho : o < 256) (hk : (o : Int) % 3 = 0) (hh : HasErr w) (q : Py) (hq : q = z.pay) (y : Py) (hE1 : payE q 4 (1 + (a : Int)) = 0) (hy : payR q 4 (1 + (a : Int)) = y) (hE : ¬ payE q 4 (1 + (a : Int) + (1 + (b : Int))) = 0) (hE2 : ¬ payE y 4 (1 + (b : Int)) = 0) :
    Calls Tryd.prog 6 #[z.val, .int .u8 (a : Int), .int .u8 (b : Int), .int .u8 (o : Int)] w fun e w' => e = .returned (.bool true) ∧ Below w.heap.size w w' := by
  have HA := Lib.hid (fun W => paid_any z hz W)
  rw [← hq] at HA
  have HW := Lib.hid (fun W => do_any q 4 (1 + (a : Int) + (1 + (b : Int))) W)
  have HO := Lib.hid (fun W => do_any q 4 (1 + (a : Int)) W)
  have HT := Lib.hid (fun W => do_any y 4 (1 + (b : Int)) W)
  rw [payR_err hE] at HW
  rw [hE1, hy] at HO
  rw [payR_err hE2] at HT
  obtain ⟨eHW, hHW⟩ : ∃ x, payE q 4 (1 + (a : Int) + (1 + (b : Int))) = x := ⟨_, rfl⟩
  rw [hHW] at HW hE
  obtain ⟨eHT, hHT⟩ : ∃ x, payE y 4 (1 + (b : Int)) = x := ⟨_, rfl⟩
  rw [hHT] at HT hE2
  unfold PayRes Py.val Py.zero errV at HW
  rw [if_neg hE] at HW
  unfold PayRes Py.val errV at HO
  rw [if_pos rfl] at HO
  unfold PayRes Py.val Py.zero errV at HT
  rw [if_neg hE2] at HT
  obtain ⟨qf, qd, qa, qc, qr, qg, qt, qs⟩ := q
  obtain ⟨yf, yd, ya, yc, yr, yg, yt, ys⟩ := y
  dsimp only at HW HO HT
  clear hHT hHW hy hE2 hE1 hE
  obtain ⟨zf, zt, za, zc, zr, zg, zu, zl⟩ := z
  unfold PyRes Py.val at HA
  unfold Pd.val at HA ⊢
  dsimp only at HA ⊢
  have H1 := Lib.hid (Pd8.new w zf zt za zc zr zg zu zl)
  have HB0 := Lib.hid ((Below.refl w.heap.size w).alloc (Nat.le_refl _) (.cells #[.int .u8 (zf : Int), .int .u8 (zt : Int), .int .u8 (za : Int), .int .u8 (zc : Int), .int .u8 (zr : Int), .int .u8 (zg : Int), .int .u8 (zu : Int), .bool zl] 23))
  have HP := Lib.hid (pawake_ok (w.alloc (.cells #[.int .u8 (zf : Int), .int .u8 (zt : Int), .int .u8 (za : Int), .int .u8 (zc : Int), .int .u8 (zr : Int), .int .u8 (zg : Int), .int .u8 (zu : Int), .bool zl] 23)) (hh.below HB0.out))
  have HH := Lib.hid hh
  clear hq hz hh
  go_enter Tryd.func6, Tryd.ntmps6
  go_wp2_with fail
  refine HP.out.mono ?_
  rintro _ w1 ⟨rfl, hb1⟩
  obtain ⟨x0, x1, x2, x3, x4, x5, x6, x7⟩ := (H1.out.below hb1 (by simp)).cells
  have HB1 := Lib.hid (HB0.out.trans (hb1.mono (by simp)))
  clear hb1 H1 HB0 HP
  go_wp2_with fail
  refine (HA.out _).mono ?_
  rintro _ w2 ⟨rfl, hb2⟩
  have HX2 := Lib.hid (Py8.new w2 28 qf qd qa qc qr qg qt qs)
  have HB2 := Lib.hid ((HB1.out.trans (hb2.mono HB1.out.size)).alloc (Nat.le_trans HB1.out.size hb2.size) (.cells #[.int .i64 qf, .int .i64 qd, .int .i64 qa, .int .i64 qc, .int .i64 qr, .int .i64 qg, .int .i64 qt, .int .i64 qs] 28))
  clear x0 x1 x2 x3 x4 x5 x6 x7 hb2 HB1 HA
  have HX2b := Lib.hid (HX2.out.alloc (.cells #[.int .i64 4, .int .i64 6, .int .i64 7] 35) (by simp))
  have HB2b := Lib.hid (HB2.out.alloc (by have := HB2.out.size; omega) (.cells #[.int .i64 4, .int .i64 6, .int .i64 7] 35))
  clear HX2 HB2
  go_wp2_with fail
  refine (HW.out _).mono ?_
  rintro _ w3 ⟨rfl, hb3⟩
  have hz3 : w2.heap.size + 1 < w3.heap.size := by have := hb3.size; simp at this; omega
  have HX3 := Lib.hid ((HX2b.out.below hb3 (by simp; omega)).alloc (.cells #[.int .i64 0, .int .i64 0, .int .i64 0, .int .i64 0, .int .i64 0, .int .i64 0, .int .i64 0, .int .i64 0] 28) (by omega))
  obtain ⟨x0, x1, x2, x3, x4, x5, x6, x7⟩ := (HX2b.out.below hb3 (by simp; omega)).cells
  replace hz3 : w2.heap.size < w3.heap.size := by omega
  have HV3 := Lib.hid (Py8.new w3 28 0 0 0 0 0 0 0 0)
  have HB3 := Lib.hid ((HB2b.out.trans (hb3.mono HB2b.out.size)).alloc (Nat.le_trans HB2b.out.size hb3.size) (.cells #[.int .i64 0, .int .i64 0, .int .i64 0, .int .i64 0, .int .i64 0, .int .i64 0, .int .i64 0, .int .i64 0] 28))
  clear hb3 HB2b HX2b HW
  go_wp2_with fail
  refine (HO.out _).mono ?_
  rintro _ w4 ⟨rfl, hb4⟩
  clear x0 x1 x2 x3 x4 x5 x6 x7
  have hz4 : w3.heap.size < w4.heap.size := by have := hb4.size; simp at this; omega
  have HV4 := Lib.hid ((HV3.out.below hb4 (by simp)).alloc (.cells #[.int .i64 yf, .int .i64 yd, .int .i64 ya, .int .i64 yc, .int .i64 yr, .int .i64 yg, .int .i64 yt, .int .i64 ys] 28) hz4)
  have HY4 := Lib.hid (Py8.new w4 28 yf yd ya yc yr yg yt ys)
  have HB4 := Lib.hid ((HB3.out.trans (hb4.mono HB3.out.size)).alloc (Nat.le_trans HB3.out.size hb4.size) (.cells #[.int .i64 yf, .int .i64 yd, .int .i64 ya, .int .i64 yc, .int .i64 yr, .int .i64 yg, .int .i64 yt, .int .i64 ys] 28))
  clear hb4 HB3 HV3 HO
  go_wp2_with fail
  refine (HT.out _).mono ?_
  rintro _ w5 ⟨rfl, hb5⟩
  have hz5 : w4.heap.size < w5.heap.size := by have := hb5.size; simp at this; omega
  obtain ⟨v0, v1, v2, v3, v4, v5, v6, v7⟩ := ((HV4.out.below hb5 (by simp; omega)).alloc (.cells #[.int .i64 0, .int .i64 0, .int .i64 0, .int .i64 0, .int .i64 0, .int .i64 0, .int .i64 0, .int .i64 0] 28) (by omega)).cells
  have HB5 := Lib.hid ((HB4.out.trans (hb5.mono HB4.out.size)).alloc (Nat.le_trans HB4.out.size hb5.size) (.cells #[.int .i64 0, .int .i64 0, .int .i64 0, .int .i64 0, .int .i64 0, .int .i64 0, .int .i64 0, .int .i64 0] 28))
  clear hb5 HB4 HV4 HY4 HT
  go_wp2
  go_quiet (fail)
  go_wp2
  go_ret
  exact ⟨rfl, below_drewN HB5.out _⟩

set_option maxRecDepth 100000 in
set_option maxHeartbeats 1000000 in
theorem paymentParts_4_all (w : World) (z : Pd) (hz : z.fits) (a b o : Nat) (ha : a < 256) (hb : b < 256) (ho : o < 256) (hk : (o : Int) % 3 = 0) (hh : HasErr w) (q : Py) (hq : q = z.pay) (y v : Py) (hE1 : payE q 4 (1 + (a : Int)) = 0) (hy : payR q 4 (1 + (a : Int)) = y) (hE : payE q 4 (1 + (a : Int) + (1 + (b : Int))) = 0) (hE2 : payE y 4 (1 + (b : Int)) = 0) (hv : payR q 4 (1 + (a : Int) + (1 + (b : Int))) = v) (hv2 : payR y 4 (1 + (b : Int)) = v) :
    Calls Tryd.prog 6 #[z.val, .int .u8 (a : Int), .int .u8 (b : Int), .int .u8 (o : Int)] w fun e w' => e = .returned (.bool true) ∧ Below w.heap.size w w' := by
  have HA := Lib.hid (fun W => paid_any z hz W)
  rw [← hq] at HA
  have HW := Lib.hid (fun W => do_any q 4 (1 + (a : Int) + (1 + (b : Int))) W)
  have HO := Lib.hid (fun W => do_any q 4 (1 + (a : Int)) W)
  have HT := Lib.hid (fun W => do_any y 4 (1 + (b : Int)) W)
  rw [hE, hv] at HW
  rw [hE1, hy] at HO
  rw [hE2, hv2] at HT
  unfold PayRes Py.val errV at HW
  rw [if_pos rfl] at HW
  unfold PayRes Py.val errV at HO
  rw [if_pos rfl] at HO
  unfold PayRes Py.val errV at HT
  rw [if_pos rfl] at HT
  obtain ⟨qf, qd, qa, qc, qr, qg, qt, qs⟩ := q
  obtain ⟨yf, yd, ya, yc, yr, yg, yt, ys⟩ := y
  obtain ⟨vf, vd, va, vc, vr, vg, vt, vs⟩ := v
  dsimp only at HW HO HT
  clear hv2 hv hy hE2 hE1 hE
  obtain ⟨zf, zt, za, zc, zr, zg, zu, zl⟩ := z
  unfold PyRes Py.val at HA
  unfold Pd.val at HA ⊢
  dsimp only at HA ⊢
  have H1 := Lib.hid (Pd8.new w zf zt za zc zr zg zu zl)
  have HB0 := Lib.hid ((Below.refl w.heap.size w).alloc (Nat.le_refl _) (.cells #[.int .u8 (zf : Int), .int .u8 (zt : Int), .int .u8 (za : Int), .int .u8 (zc : Int), .int .u8 (zr : Int), .int .u8 (zg : Int), .int .u8 (zu : Int), .bool zl] 23))
  have HP := Lib.hid (pawake_ok (w.alloc (.cells #[.int .u8 (zf : Int), .int .u8 (zt : Int), .int .u8 (za : Int), .int .u8 (zc : Int), .int .u8 (zr : Int), .int .u8 (zg : Int), .int .u8 (zu : Int), .bool zl] 23)) (hh.below HB0.out))
  have HH := Lib.hid hh
  clear hq hz hh
  go_enter Tryd.func6, Tryd.ntmps6
  go_wp2_with fail
  refine HP.out.mono ?_
  rintro _ w1 ⟨rfl, hb1⟩
  obtain ⟨x0, x1, x2, x3, x4, x5, x6, x7⟩ := (H1.out.below hb1 (by simp)).cells
  have HB1 := Lib.hid (HB0.out.trans (hb1.mono (by simp)))
  clear hb1 H1 HB0 HP
  go_wp2_with fail
  refine (HA.out _).mono ?_
  rintro _ w2 ⟨rfl, hb2⟩
  have HX2 := Lib.hid (Py8.new w2 28 qf qd qa qc qr qg qt qs)
  have HB2 := Lib.hid ((HB1.out.trans (hb2.mono HB1.out.size)).alloc (Nat.le_trans HB1.out.size hb2.size) (.cells #[.int .i64 qf, .int .i64 qd, .int .i64 qa, .int .i64 qc, .int .i64 qr, .int .i64 qg, .int .i64 qt, .int .i64 qs] 28))
  clear x0 x1 x2 x3 x4 x5 x6 x7 hb2 HB1 HA
  have HX2b := Lib.hid (HX2.out.alloc (.cells #[.int .i64 4, .int .i64 6, .int .i64 7] 35) (by simp))
  have HB2b := Lib.hid (HB2.out.alloc (by have := HB2.out.size; omega) (.cells #[.int .i64 4, .int .i64 6, .int .i64 7] 35))
  clear HX2 HB2
  go_wp2_with fail
  refine (HW.out _).mono ?_
  rintro _ w3 ⟨rfl, hb3⟩
  have hz3 : w2.heap.size + 1 < w3.heap.size := by have := hb3.size; simp at this; omega
  have HX3 := Lib.hid ((HX2b.out.below hb3 (by simp; omega)).alloc (.cells #[.int .i64 vf, .int .i64 vd, .int .i64 va, .int .i64 vc, .int .i64 vr, .int .i64 vg, .int .i64 vt, .int .i64 vs] 28) (by omega))
  obtain ⟨x0, x1, x2, x3, x4, x5, x6, x7⟩ := (HX2b.out.below hb3 (by simp; omega)).cells
  replace hz3 : w2.heap.size < w3.heap.size := by omega
  have HV3 := Lib.hid (Py8.new w3 28 vf vd va vc vr vg vt vs)
  have HB3 := Lib.hid ((HB2b.out.trans (hb3.mono HB2b.out.size)).alloc (Nat.le_trans HB2b.out.size hb3.size) (.cells #[.int .i64 vf, .int .i64 vd, .int .i64 va, .int .i64 vc, .int .i64 vr, .int .i64 vg, .int .i64 vt, .int .i64 vs] 28))
  clear hb3 HB2b HX2b HW
  go_wp2_with fail
  refine (HO.out _).mono ?_
  rintro _ w4 ⟨rfl, hb4⟩
  clear x0 x1 x2 x3 x4 x5 x6 x7
  have hz4 : w3.heap.size < w4.heap.size := by have := hb4.size; simp at this; omega
  have HV4 := Lib.hid ((HV3.out.below hb4 (by simp)).alloc (.cells #[.int .i64 yf, .int .i64 yd, .int .i64 ya, .int .i64 yc, .int .i64 yr, .int .i64 yg, .int .i64 yt, .int .i64 ys] 28) hz4)
  have HY4 := Lib.hid (Py8.new w4 28 yf yd ya yc yr yg yt ys)
  have HB4 := Lib.hid ((HB3.out.trans (hb4.mono HB3.out.size)).alloc (Nat.le_trans HB3.out.size hb4.size) (.cells #[.int .i64 yf, .int .i64 yd, .int .i64 ya, .int .i64 yc, .int .i64 yr, .int .i64 yg, .int .i64 yt, .int .i64 ys] 28))
  clear hb4 HB3 HV3 HO
  go_wp2_with fail
  refine (HT.out _).mono ?_
  rintro _ w5 ⟨rfl, hb5⟩
  have hz5 : w4.heap.size < w5.heap.size := by have := hb5.size; simp at this; omega
  obtain ⟨v0, v1, v2, v3, v4, v5, v6, v7⟩ := ((HV4.out.below hb5 (by simp; omega)).alloc (.cells #[.int .i64 vf, .int .i64 vd, .int .i64 va, .int .i64 vc, .int .i64 vr, .int .i64 vg, .int .i64 vt, .int .i64 vs] 28) (by omega)).cells
  have HB5 := Lib.hid ((HB4.out.trans (hb5.mono HB4.out.size)).alloc (Nat.le_trans HB4.out.size hb5.size) (.cells #[.int .i64 vf, .int .i64 vd, .int .i64 va, .int .i64 vc, .int .i64 vr, .int .i64 vg, .int .i64 vt, .int .i64 vs] 28))
  clear hb5 HB4 HV4 HY4 HT
  go_wp2
  go_quiet (fail)
  go_wp2
  go_ret
  exact ⟨rfl, below_drewN HB5.out _⟩

theorem paymentParts_4 (w : World) (z : Pd) (hz : z.fits) (a b o : Nat) (ha : a < 256) (hb : b < 256) (ho : o < 256) (hk : (o : Int) % 3 = 0) (hh : HasErr w) :
    Calls Tryd.prog 6 #[z.val, .int .u8 (a : Int), .int .u8 (b : Int), .int .u8 (o : Int)] w fun e w' => e = .returned (.bool true) ∧ Below w.heap.size w w' := by
  obtain ⟨p1, p2⟩ := parts_4 (z.right hz) (n := 1 + (a : Int)) (m := 1 + (b : Int)) (by omega) (by omega)
  by_cases hE1 : payE z.pay 4 (1 + (a : Int)) = 0
  · have hy : payR z.pay 4 (1 + (a : Int)) = payP z.pay 4 (1 + (a : Int)) := by unfold payR; rw [if_pos hE1]
    obtain ⟨q1, q2⟩ := p2 hE1
    by_cases hE : payE z.pay 4 (1 + (a : Int) + (1 + (b : Int))) = 0
    · exact paymentParts_4_all w z hz a b o ha hb ho hk hh _ rfl _ _ hE1 hy hE (q1.1 hE) rfl q2.symm
    · exact paymentParts_4_none w z hz a b o ha hb ho hk hh _ rfl _ hE1 hy hE (fun h => hE (q1.2 h))
  · exact paymentParts_4_bad w z hz a b o ha hb ho hk hh _ rfl hE1 (p1 hE1)

set_option maxRecDepth 100000 in
set_option maxHeartbeats 1000000 in
theorem paymentParts_6_bad (w : World) (z : Pd) (hz : z.fits) (a b o : Nat) (ha : a < 256) (hb : b < 256) (ho : o < 256) (hk : (o : Int) % 3 = 1) (hh : HasErr w) (q : Py) (hq : q = z.pay) (hE1 : ¬ payE q 6 (1 + (a : Int)) = 0) (hE : ¬ payE q 6 (1 + (a : Int) + (1 + (b : Int))) = 0) :
    Calls Tryd.prog 6 #[z.val, .int .u8 (a : Int), .int .u8 (b : Int), .int .u8 (o : Int)] w fun e w' => e = .returned (.bool true) ∧ Below w.heap.size w w' := by
  have HA := Lib.hid (fun W => paid_any z hz W)
  rw [← hq] at HA
  have HW := Lib.hid (fun W => do_any q 6 (1 + (a : Int) + (1 + (b : Int))) W)
  have HO := Lib.hid (fun W => do_any q 6 (1 + (a : Int)) W)
  rw [payR_err hE] at HW
  rw [payR_err hE1] at HO
  obtain ⟨eHW, hHW⟩ : ∃ x, payE q 6 (1 + (a : Int) + (1 + (b : Int))) = x := ⟨_, rfl⟩
  rw [hHW] at HW hE
  obtain ⟨eHO, hHO⟩ : ∃ x, payE q 6 (1 + (a : Int)) = x := ⟨_, rfl⟩
  rw [hHO] at HO hE1
  unfold PayRes Py.val Py.zero errV at HW
  rw [if_neg hE] at HW
  unfold PayRes Py.val Py.zero errV at HO
  rw [if_neg hE1] at HO
  obtain ⟨qf, qd, qa, qc, qr, qg, qt, qs⟩ := q
  dsimp only at HW HO
  clear hHO hHW hE1 hE
  obtain ⟨zf, zt, za, zc, zr, zg, zu, zl⟩ := z
  unfold PyRes Py.val at HA
  unfold Pd.val at HA ⊢
  dsimp only at HA ⊢
  have H1 := Lib.hid (Pd8.new w zf zt za zc zr zg zu zl)
  have HB0 := Lib.hid ((Below.refl w.heap.size w).alloc (Nat.le_refl _) (.cells #[.int .u8 (zf : Int), .int .u8 (zt : Int), .int .u8 (za : Int), .int .u8 (zc : Int), .int .u8 (zr : Int), .int .u8 (zg : Int), .int .u8 (zu : Int), .bool zl] 23))
  have HP := Lib.hid (pawake_ok (w.alloc (.cells #[.int .u8 (zf : Int), .int .u8 (zt : Int), .int .u8 (za : Int), .int .u8 (zc : Int), .int .u8 (zr : Int), .int .u8 (zg : Int), .int .u8 (zu : Int), .bool zl] 23)) (hh.below HB0.out))
  have HH := Lib.hid hh
  clear hq hz hh
  go_enter Tryd.func6, Tryd.ntmps6
  go_wp2_with fail
  refine HP.out.mono ?_
  rintro _ w1 ⟨rfl, hb1⟩
  obtain ⟨x0, x1, x2, x3, x4, x5, x6, x7⟩ := (H1.out.below hb1 (by simp)).cells
  have HB1 := Lib.hid (HB0.out.trans (hb1.mono (by simp)))
  clear hb1 H1 HB0 HP
  go_wp2_with fail
  refine (HA.out _).mono ?_
  rintro _ w2 ⟨rfl, hb2⟩
  have HX2 := Lib.hid (Py8.new w2 28 qf qd qa qc qr qg qt qs)
  have HB2 := Lib.hid ((HB1.out.trans (hb2.mono HB1.out.size)).alloc (Nat.le_trans HB1.out.size hb2.size) (.cells #[.int .i64 qf, .int .i64 qd, .int .i64 qa, .int .i64 qc, .int .i64 qr, .int .i64 qg, .int .i64 qt, .int .i64 qs] 28))
  clear x0 x1 x2 x3 x4 x5 x6 x7 hb2 HB1 HA
  have HX2b := Lib.hid (HX2.out.alloc (.cells #[.int .i64 4, .int .i64 6, .int .i64 7] 35) (by simp))
  have HB2b := Lib.hid (HB2.out.alloc (by have := HB2.out.size; omega) (.cells #[.int .i64 4, .int .i64 6, .int .i64 7] 35))
  clear HX2 HB2
  go_wp2_with fail
  refine (HW.out _).mono ?_
  rintro _ w3 ⟨rfl, hb3⟩
  have hz3 : w2.heap.size + 1 < w3.heap.size := by have := hb3.size; simp at this; omega
  have HX3 := Lib.hid ((HX2b.out.below hb3 (by simp; omega)).alloc (.cells #[.int .i64 0, .int .i64 0, .int .i64 0, .int .i64 0, .int .i64 0, .int .i64 0, .int .i64 0, .int .i64 0] 28) (by omega))
  obtain ⟨x0, x1, x2, x3, x4, x5, x6, x7⟩ := (HX2b.out.below hb3 (by simp; omega)).cells
  replace hz3 : w2.heap.size < w3.heap.size := by omega
  have HV3 := Lib.hid (Py8.new w3 28 0 0 0 0 0 0 0 0)
  have HB3 := Lib.hid ((HB2b.out.trans (hb3.mono HB2b.out.size)).alloc (Nat.le_trans HB2b.out.size hb3.size) (.cells #[.int .i64 0, .int .i64 0, .int .i64 0, .int .i64 0, .int .i64 0, .int .i64 0, .int .i64 0, .int .i64 0] 28))
  clear hb3 HB2b HX2b HW
  go_wp2_with fail
  refine (HO.out _).mono ?_
  rintro _ w4 ⟨rfl, hb4⟩
  clear x0 x1 x2 x3 x4 x5 x6 x7
  have hz4 : w3.heap.size < w4.heap.size := by have := hb4.size; simp at this; omega
  have HV4 := Lib.hid ((HV3.out.below hb4 (by simp)).alloc (.cells #[.int .i64 0, .int .i64 0, .int .i64 0, .int .i64 0, .int .i64 0, .int .i64 0, .int .i64 0, .int .i64 0] 28) hz4)
  have HY4 := Lib.hid (Py8.new w4 28 0 0 0 0 0 0 0 0)
  have HB4 := Lib.hid ((HB3.out.trans (hb4.mono HB3.out.size)).alloc (Nat.le_trans HB3.out.size hb4.size) (.cells #[.int .i64 0, .int .i64 0, .int .i64 0, .int .i64 0, .int .i64 0, .int .i64 0, .int .i64 0, .int .i64 0] 28))
  clear hb4 HB3 HV3 HO
  go_wp2
  go_ret
  exact ⟨rfl, HB4.out⟩

set_option maxRecDepth 100000 in
set_option maxHeartbeats 1000000 in
theorem paymentParts_6_none (w : World) (z : Pd) (hz : z.fits) (a b o : Nat) (ha : a < 256) (hb : b < 256) (ho : o < 256) (hk : (o : Int) % 3 = 1) (hh : HasErr w) (q : Py) (hq : q = z.pay) (y : Py) (hE1 : payE q 6 (1 + (a : Int)) = 0) (hy : payR q 6 (1 + (a : Int)) = y) (hE : ¬ payE q 6 (1 + (a : Int) + (1 + (b : Int))) = 0) (hE2 : ¬ payE y 6 (1 + (b : Int)) = 0) :
    Calls Tryd.prog 6 #[z.val, .int .u8 (a : Int), .int .u8 (b : Int), .int .u8 (o : Int)] w fun e w' => e = .returned (.bool true) ∧ Below w.heap.size w w' := by
  have HA := Lib.hid (fun W => paid_any z hz W)
  rw [← hq] at HA
  have HW := Lib.hid (fun W => do_any q 6 (1 + (a : Int) + (1 + (b : Int))) W)
  have HO := Lib.hid (fun W => do_any q 6 (1 + (a : Int)) W)
  have HT := Lib.hid (fun W => do_any y 6 (1 + (b : Int)) W)
  rw [payR_err hE] at HW
  rw [hE1, hy] at HO
  rw [payR_err hE2] at HT
  obtain ⟨eHW, hHW⟩ : ∃ x, payE q 6 (1 + (a : Int) + (1 + (b : Int))) = x := ⟨_, rfl⟩
  rw [hHW] at HW hE
  obtain ⟨eHT, hHT⟩ : ∃ x, payE y 6 (1 + (b : Int)) = x := ⟨_, rfl⟩
  rw [hHT] at HT hE2
  unfold PayRes Py.val Py.zero errV at HW
  rw [if_neg hE] at HW
  unfold PayRes Py.val errV at HO
  rw [if_pos rfl] at HO
  unfold PayRes Py.val Py.zero errV at HT
  rw [if_neg hE2] at HT
  obtain ⟨qf, qd, qa, qc, qr, qg, qt, qs⟩ := q
  obtain ⟨yf, yd, ya, yc, yr, yg, yt, ys⟩ := y
  dsimp only at HW HO HT
  clear hHT hHW hy hE2 hE1 hE
  obtain ⟨zf, zt, za, zc, zr, zg, zu, zl⟩ := z
  unfold PyRes Py.val at HA
  unfold Pd.val at HA ⊢
  dsimp only at HA ⊢
  have H1 := Lib.hid (Pd8.new w zf zt za zc zr zg zu zl)
  have HB0 := Lib.hid ((Below.refl w.heap.size w).alloc (Nat.le_refl _) (.cells #[.int .u8 (zf : Int), .int .u8 (zt : Int), .int .u8 (za : Int), .int .u8 (zc : Int), .int .u8 (zr : Int), .int .u8 (zg : Int), .int .u8 (zu : Int), .bool zl] 23))
  have HP := Lib.hid (pawake_ok (w.alloc (.cells #[.int .u8 (zf : Int), .int .u8 (zt : Int), .int .u8 (za : Int), .int .u8 (zc : Int), .int .u8 (zr : Int), .int .u8 (zg : Int), .int .u8 (zu : Int), .bool zl] 23)) (hh.below HB0.out))
  have HH := Lib.hid hh
  clear hq hz hh
  go_enter Tryd.func6, Tryd.ntmps6
  go_wp2_with fail
  refine HP.out.mono ?_
  rintro _ w1 ⟨rfl, hb1⟩
  obtain ⟨x0, x1, x2, x3, x4, x5, x6, x7⟩ := (H1.out.below hb1 (by simp)).cells
  have HB1 := Lib.hid (HB0.out.trans (hb1.mono (by simp)))
  clear hb1 H1 HB0 HP
  go_wp2_with fail
  refine (HA.out _).mono ?_
  rintro _ w2 ⟨rfl, hb2⟩
  have HX2 := Lib.hid (Py8.new w2 28 qf qd qa qc qr qg qt qs)
  have HB2 := Lib.hid ((HB1.out.trans (hb2.mono HB1.out.size)).alloc (Nat.le_trans HB1.out.size hb2.size) (.cells #[.int .i64 qf, .int .i64 qd, .int .i64 qa, .int .i64 qc, .int .i64 qr, .int .i64 qg, .int .i64 qt, .int .i64 qs] 28))
  clear x0 x1 x2 x3 x4 x5 x6 x7 hb2 HB1 HA
  have HX2b := Lib.hid (HX2.out.alloc (.cells #[.int .i64 4, .int .i64 6, .int .i64 7] 35) (by simp))
  have HB2b := Lib.hid (HB2.out.alloc (by have := HB2.out.size; omega) (.cells #[.int .i64 4, .int .i64 6, .int .i64 7] 35))
  clear HX2 HB2
  go_wp2_with fail
  refine (HW.out _).mono ?_
  rintro _ w3 ⟨rfl, hb3⟩
  have hz3 : w2.heap.size + 1 < w3.heap.size := by have := hb3.size; simp at this; omega
  have HX3 := Lib.hid ((HX2b.out.below hb3 (by simp; omega)).alloc (.cells #[.int .i64 0, .int .i64 0, .int .i64 0, .int .i64 0, .int .i64 0, .int .i64 0, .int .i64 0, .int .i64 0] 28) (by omega))
  obtain ⟨x0, x1, x2, x3, x4, x5, x6, x7⟩ := (HX2b.out.below hb3 (by simp; omega)).cells
  replace hz3 : w2.heap.size < w3.heap.size := by omega
  have HV3 := Lib.hid (Py8.new w3 28 0 0 0 0 0 0 0 0)
  have HB3 := Lib.hid ((HB2b.out.trans (hb3.mono HB2b.out.size)).alloc (Nat.le_trans HB2b.out.size hb3.size) (.cells #[.int .i64 0, .int .i64 0, .int .i64 0, .int .i64 0, .int .i64 0, .int .i64 0, .int .i64 0, .int .i64 0] 28))
  clear hb3 HB2b HX2b HW
  go_wp2_with fail
  refine (HO.out _).mono ?_
  rintro _ w4 ⟨rfl, hb4⟩
  clear x0 x1 x2 x3 x4 x5 x6 x7
  have hz4 : w3.heap.size < w4.heap.size := by have := hb4.size; simp at this; omega
  have HV4 := Lib.hid ((HV3.out.below hb4 (by simp)).alloc (.cells #[.int .i64 yf, .int .i64 yd, .int .i64 ya, .int .i64 yc, .int .i64 yr, .int .i64 yg, .int .i64 yt, .int .i64 ys] 28) hz4)
  have HY4 := Lib.hid (Py8.new w4 28 yf yd ya yc yr yg yt ys)
  have HB4 := Lib.hid ((HB3.out.trans (hb4.mono HB3.out.size)).alloc (Nat.le_trans HB3.out.size hb4.size) (.cells #[.int .i64 yf, .int .i64 yd, .int .i64 ya, .int .i64 yc, .int .i64 yr, .int .i64 yg, .int .i64 yt, .int .i64 ys] 28))
  clear hb4 HB3 HV3 HO
  go_wp2_with fail
  refine (HT.out _).mono ?_
  rintro _ w5 ⟨rfl, hb5⟩
  have hz5 : w4.heap.size < w5.heap.size := by have := hb5.size; simp at this; omega
  obtain ⟨v0, v1, v2, v3, v4, v5, v6, v7⟩ := ((HV4.out.below hb5 (by simp; omega)).alloc (.cells #[.int .i64 0, .int .i64 0, .int .i64 0, .int .i64 0, .int .i64 0, .int .i64 0, .int .i64 0, .int .i64 0] 28) (by omega)).cells
  have HB5 := Lib.hid ((HB4.out.trans (hb5.mono HB4.out.size)).alloc (Nat.le_trans HB4.out.size hb5.size) (.cells #[.int .i64 0, .int .i64 0, .int .i64 0, .int .i64 0, .int .i64 0, .int .i64 0, .int .i64 0, .int .i64 0] 28))
  clear hb5 HB4 HV4 HY4 HT
  go_wp2
  go_quiet (fail)
  go_wp2
  go_ret
  exact ⟨rfl, below_drewN HB5.out _⟩

set_option maxRecDepth 100000 in
set_option maxHeartbeats 1000000 in
theorem paymentParts_6_all (w : World) (z : Pd) (hz : z.fits) (a b o : Nat) (ha : a < 256) (hb : b < 256) (ho : o < 256) (hk : (o : Int) % 3 = 1) (hh : HasErr w) (q : Py) (hq : q = z.pay) (y v : Py) (hE1 : payE q 6 (1 + (a : Int)) = 0) (hy : payR q 6 (1 + (a : Int)) = y) (hE : payE q 6 (1 + (a : Int) + (1 + (b : Int))) = 0) (hE2 : payE y 6 (1 + (b : Int)) = 0) (hv : payR q 6 (1 + (a : Int) + (1 + (b : Int))) = v) (hv2 : payR y 6 (1 + (b : Int)) = v) :
    Calls Tryd.prog 6 #[z.val, .int .u8 (a : Int), .int .u8 (b : Int), .int .u8 (o : Int)] w fun e w' => e = .returned (.bool true) ∧ Below w.heap.size w w' := by
  have HA := Lib.hid (fun W => paid_any z hz W)
  rw [← hq] at HA
  have HW := Lib.hid (fun W => do_any q 6 (1 + (a : Int) + (1 + (b : Int))) W)
  have HO := Lib.hid (fun W => do_any q 6 (1 + (a : Int)) W)
  have HT := Lib.hid (fun W => do_any y 6 (1 + (b : Int)) W)
  rw [hE, hv] at HW
  rw [hE1, hy] at HO
  rw [hE2, hv2] at HT
  unfold PayRes Py.val errV at HW
  rw [if_pos rfl] at HW
  unfold PayRes Py.val errV at HO
  rw [if_pos rfl] at HO
  unfold PayRes Py.val errV at HT
  rw [if_pos rfl] at HT
  obtain ⟨qf, qd, qa, qc, qr, qg, qt, qs⟩ := q
  obtain ⟨yf, yd, ya, yc, yr, yg, yt, ys⟩ := y
  obtain ⟨vf, vd, va, vc, vr, vg, vt, vs⟩ := v
  dsimp only at HW HO HT
  clear hv2 hv hy hE2 hE1 hE
  obtain ⟨zf, zt, za, zc, zr, zg, zu, zl⟩ := z
  unfold PyRes Py.val at HA
  unfold Pd.val at HA ⊢
  dsimp only at HA ⊢
  have H1 := Lib.hid (Pd8.new w zf zt za zc zr zg zu zl)
  have HB0 := Lib.hid ((Below.refl w.heap.size w).alloc (Nat.le_refl _) (.cells #[.int .u8 (zf : Int), .int .u8 (zt : Int), .int .u8 (za : Int), .int .u8 (zc : Int), .int .u8 (zr : Int), .int .u8 (zg : Int), .int .u8 (zu : Int), .bool zl] 23))
  have HP := Lib.hid (pawake_ok (w.alloc (.cells #[.int .u8 (zf : Int), .int .u8 (zt : Int), .int .u8 (za : Int), .int .u8 (zc : Int), .int .u8 (zr : Int), .int .u8 (zg : Int), .int .u8 (zu : Int), .bool zl] 23)) (hh.below HB0.out))
  have HH := Lib.hid hh
  clear hq hz hh
  go_enter Tryd.func6, Tryd.ntmps6
  go_wp2_with fail
  refine HP.out.mono ?_
  rintro _ w1 ⟨rfl, hb1⟩
  obtain ⟨x0, x1, x2, x3, x4, x5, x6, x7⟩ := (H1.out.below hb1 (by simp)).cells
  have HB1 := Lib.hid (HB0.out.trans (hb1.mono (by simp)))
  clear hb1 H1 HB0 HP
  go_wp2_with fail
  refine (HA.out _).mono ?_
  rintro _ w2 ⟨rfl, hb2⟩
  have HX2 := Lib.hid (Py8.new w2 28 qf qd qa qc qr qg qt qs)
  have HB2 := Lib.hid ((HB1.out.trans (hb2.mono HB1.out.size)).alloc (Nat.le_trans HB1.out.size hb2.size) (.cells #[.int .i64 qf, .int .i64 qd, .int .i64 qa, .int .i64 qc, .int .i64 qr, .int .i64 qg, .int .i64 qt, .int .i64 qs] 28))
  clear x0 x1 x2 x3 x4 x5 x6 x7 hb2 HB1 HA
  have HX2b := Lib.hid (HX2.out.alloc (.cells #[.int .i64 4, .int .i64 6, .int .i64 7] 35) (by simp))
  have HB2b := Lib.hid (HB2.out.alloc (by have := HB2.out.size; omega) (.cells #[.int .i64 4, .int .i64 6, .int .i64 7] 35))
  clear HX2 HB2
  go_wp2_with fail
  refine (HW.out _).mono ?_
  rintro _ w3 ⟨rfl, hb3⟩
  have hz3 : w2.heap.size + 1 < w3.heap.size := by have := hb3.size; simp at this; omega
  have HX3 := Lib.hid ((HX2b.out.below hb3 (by simp; omega)).alloc (.cells #[.int .i64 vf, .int .i64 vd, .int .i64 va, .int .i64 vc, .int .i64 vr, .int .i64 vg, .int .i64 vt, .int .i64 vs] 28) (by omega))
  obtain ⟨x0, x1, x2, x3, x4, x5, x6, x7⟩ := (HX2b.out.below hb3 (by simp; omega)).cells
  replace hz3 : w2.heap.size < w3.heap.size := by omega
  have HV3 := Lib.hid (Py8.new w3 28 vf vd va vc vr vg vt vs)
  have HB3 := Lib.hid ((HB2b.out.trans (hb3.mono HB2b.out.size)).alloc (Nat.le_trans HB2b.out.size hb3.size) (.cells #[.int .i64 vf, .int .i64 vd, .int .i64 va, .int .i64 vc, .int .i64 vr, .int .i64 vg, .int .i64 vt, .int .i64 vs] 28))
  clear hb3 HB2b HX2b HW
  go_wp2_with fail
  refine (HO.out _).mono ?_
  rintro _ w4 ⟨rfl, hb4⟩
  clear x0 x1 x2 x3 x4 x5 x6 x7
  have hz4 : w3.heap.size < w4.heap.size := by have := hb4.size; simp at this; omega
  have HV4 := Lib.hid ((HV3.out.below hb4 (by simp)).alloc (.cells #[.int .i64 yf, .int .i64 yd, .int .i64 ya, .int .i64 yc, .int .i64 yr, .int .i64 yg, .int .i64 yt, .int .i64 ys] 28) hz4)
  have HY4 := Lib.hid (Py8.new w4 28 yf yd ya yc yr yg yt ys)
  have HB4 := Lib.hid ((HB3.out.trans (hb4.mono HB3.out.size)).alloc (Nat.le_trans HB3.out.size hb4.size) (.cells #[.int .i64 yf, .int .i64 yd, .int .i64 ya, .int .i64 yc, .int .i64 yr, .int .i64 yg, .int .i64 yt, .int .i64 ys] 28))
  clear hb4 HB3 HV3 HO
  go_wp2_with fail
  refine (HT.out _).mono ?_
  rintro _ w5 ⟨rfl, hb5⟩
  have hz5 : w4.heap.size < w5.heap.size := by have := hb5.size; simp at this; omega
  obtain ⟨v0, v1, v2, v3, v4, v5, v6, v7⟩ := ((HV4.out.below hb5 (by simp; omega)).alloc (.cells #[.int .i64 vf, .int .i64 vd, .int .i64 va, .int .i64 vc, .int .i64 vr, .int .i64 vg, .int .i64 vt, .int .i64 vs] 28) (by omega)).cells
  have HB5 := Lib.hid ((HB4.out.trans (hb5.mono HB4.out.size)).alloc (Nat.le_trans HB4.out.size hb5.size) (.cells #[.int .i64 vf, .int .i64 vd, .int .i64 va, .int .i64 vc, .int .i64 vr, .int .i64 vg, .int .i64 vt, .int .i64 vs] 28))
  clear hb5 HB4 HV4 HY4 HT
  go_wp2
  go_quiet (fail)
  go_wp2
  go_ret
  exact ⟨rfl, below_drewN HB5.out _⟩

theorem paymentParts_6 (w : World) (z : Pd) (hz : z.fits) (a b o : Nat) (ha : a < 256) (hb : b < 256) (ho : o < 256) (hk : (o : Int) % 3 = 1) (hh : HasErr w) :
    Calls Tryd.prog 6 #[z.val, .int .u8 (a : Int), .int .u8 (b : Int), .int .u8 (o : Int)] w fun e w' => e = .returned (.bool true) ∧ Below w.heap.size w w' := by
  obtain ⟨p1, p2⟩ := parts_6 (z.right hz) (n := 1 + (a : Int)) (m := 1 + (b : Int)) (by omega) (by omega)
  by_cases hE1 : payE z.pay 6 (1 + (a : Int)) = 0
  · have hy : payR z.pay 6 (1 + (a : Int)) = payP z.pay 6 (1 + (a : Int)) := by unfold payR; rw [if_pos hE1]
    obtain ⟨q1, q2⟩ := p2 hE1
    by_cases hE : payE z.pay 6 (1 + (a : Int) + (1 + (b : Int))) = 0
    · exact paymentParts_6_all w z hz a b o ha hb ho hk hh _ rfl _ _ hE1 hy hE (q1.1 hE) rfl q2.symm
    · exact paymentParts_6_none w z hz a b o ha hb ho hk hh _ rfl _ hE1 hy hE (fun h => hE (q1.2 h))
  · exact paymentParts_6_bad w z hz a b o ha hb ho hk hh _ rfl hE1 (p1 hE1)

set_option maxRecDepth 100000 in
set_option maxHeartbeats 1000000 in
theorem paymentParts_7_bad (w : World) (z : Pd) (hz : z.fits) (a b o : Nat) (ha : a < 256) (hb : b < 256) (ho : o < 256) (hk : (o : Int) % 3 = 2) (hh : HasErr w) (q : Py) (hq : q = z.pay) (hE1 : ¬ payE q 7 (1 + (a : Int)) = 0) (hE : ¬ payE q 7 (1 + (a : Int) + (1 + (b : Int))) = 0) :
    Calls Tryd.prog 6 #[z.val, .int .u8 (a : Int), .int .u8 (b : Int), .int .u8 (o : Int)] w fun e w' => e = .returned (.bool true) ∧ Below w.heap.size w w' := by
  have HA := Lib.hid (fun W => paid_any z hz W)
  rw [← hq] at HA
  have HW := Lib.hid (fun W => do_any q 7 (1 + (a : Int) + (1 + (b : Int))) W)
  have HO := Lib.hid (fun W => do_any q 7 (1 + (a : Int)) W)
  rw [payR_err hE] at HW
  rw [payR_err hE1] at HO
  obtain ⟨eHW, hHW⟩ : ∃ x, payE q 7 (1 + (a : Int) + (1 + (b : Int))) = x := ⟨_, rfl⟩
  rw [hHW] at HW hE
  obtain ⟨eHO, hHO⟩ : ∃ x, payE q 7 (1 + (a : Int)) = x := ⟨_, rfl⟩
  rw [hHO] at HO hE1
  unfold PayRes Py.val Py.zero errV at HW
  rw [if_neg hE] at HW
  unfold PayRes Py.val Py.zero errV at HO
  rw [if_neg hE1] at HO
  obtain ⟨qf, qd, qa, qc, qr, qg, qt, qs⟩ := q
  dsimp only at HW HO
  clear hHO hHW hE1 hE
  obtain ⟨zf, zt, za, zc, zr, zg, zu, zl⟩ := z
  unfold PyRes Py.val at HA
  unfold Pd.val at HA ⊢
  dsimp only at HA ⊢
  have H1 := Lib.hid (Pd8.new w zf zt za zc zr zg zu zl)
  have HB0 := Lib.hid ((Below.refl w.heap.size w).alloc (Nat.le_refl _) (.cells #[.int .u8 (zf : Int), .int .u8 (zt : Int), .int .u8 (za : Int), .int .u8 (zc : Int), .int .u8 (zr : Int), .int .u8 (zg : Int), .int .u8 (zu : Int), .bool zl] 23))
  have HP := Lib.hid (pawake_ok (w.alloc (.cells #[.int .u8 (zf : Int), .int .u8 (zt : Int), .int .u8 (za : Int), .int .u8 (zc : Int), .int .u8 (zr : Int), .int .u8 (zg : Int), .int .u8 (zu : Int), .bool zl] 23)) (hh.below HB0.out))
  have HH := Lib.hid hh
  clear hq hz hh
  go_enter Tryd.func6, Tryd.ntmps6
  go_wp2_with fail
  refine HP.out.mono ?_
  rintro _ w1 ⟨rfl, hb1⟩
  obtain ⟨x0, x1, x2, x3, x4, x5, x6, x7⟩ := (H1.out.below hb1 (by simp)).cells
  have HB1 := Lib.hid (HB0.out.trans (hb1.mono (by simp)))
  clear hb1 H1 HB0 HP
  go_wp2_with fail
  refine (HA.out _).mono ?_
  rintro _ w2 ⟨rfl, hb2⟩
  have HX2 := Lib.hid (Py8.new w2 28 qf qd qa qc qr qg qt qs)
  have HB2 := Lib.hid ((HB1.out.trans (hb2.mono HB1.out.size)).alloc (Nat.le_trans HB1.out.size hb2.size) (.cells #[.int .i64 qf, .int .i64 qd, .int .i64 qa, .int .i64 qc, .int .i64 qr, .int .i64 qg, .int .i64 qt, .int .i64 qs] 28))
  clear x0 x1 x2 x3 x4 x5 x6 x7 hb2 HB1 HA
  have HX2b := Lib.hid (HX2.out.alloc (.cells #[.int .i64 4, .int .i64 6, .int .i64 7] 35) (by simp))
  have HB2b := Lib.hid (HB2.out.alloc (by have := HB2.out.size; omega) (.cells #[.int .i64 4, .int .i64 6, .int .i64 7] 35))
  clear HX2 HB2
  go_wp2_with fail
  refine (HW.out _).mono ?_
  rintro _ w3 ⟨rfl, hb3⟩
  have hz3 : w2.heap.size + 1 < w3.heap.size := by have := hb3.size; simp at this; omega
  have HX3 := Lib.hid ((HX2b.out.below hb3 (by simp; omega)).alloc (.cells #[.int .i64 0, .int .i64 0, .int .i64 0, .int .i64 0, .int .i64 0, .int .i64 0, .int .i64 0, .int .i64 0] 28) (by omega))
  obtain ⟨x0, x1, x2, x3, x4, x5, x6, x7⟩ := (HX2b.out.below hb3 (by simp; omega)).cells
  replace hz3 : w2.heap.size < w3.heap.size := by omega
  have HV3 := Lib.hid (Py8.new w3 28 0 0 0 0 0 0 0 0)
  have HB3 := Lib.hid ((HB2b.out.trans (hb3.mono HB2b.out.size)).alloc (Nat.le_trans HB2b.out.size hb3.size) (.cells #[.int .i64 0, .int .i64 0, .int .i64 0, .int .i64 0, .int .i64 0, .int .i64 0, .int .i64 0, .int .i64 0] 28))
  clear hb3 HB2b HX2b HW
  go_wp2_with fail
  refine (HO.out _).mono ?_
  rintro _ w4 ⟨rfl, hb4⟩
  clear x0 x1 x2 x3 x4 x5 x6 x7
  have hz4 : w3.heap.size < w4.heap.size := by have := hb4.size; simp at this; omega
  have HV4 := Lib.hid ((HV3.out.below hb4 (by simp)).alloc (.cells #[.int .i64 0, .int .i64 0, .int .i64 0, .int .i64 0, .int .i64 0, .int .i64 0, .int .i64 0, .int .i64 0] 28) hz4)
  have HY4 := Lib.hid (Py8.new w4 28 0 0 0 0 0 0 0 0)
  have HB4 := Lib.hid ((HB3.out.trans (hb4.mono HB3.out.size)).alloc (Nat.le_trans HB3.out.size hb4.size) (.cells #[.int .i64 0, .int .i64 0, .int .i64 0, .int .i64 0, .int .i64 0, .int .i64 0, .int .i64 0, .int .i64 0] 28))
  clear hb4 HB3 HV3 HO
  go_wp2
  go_ret
  exact ⟨rfl, HB4.out⟩

set_option maxRecDepth 100000 in
set_option maxHeartbeats 1000000 in
theorem paymentParts_7_none (w : World) (z : Pd) (hz : z.fits) (a b o : Nat) (ha : a < 256) (hb : b < 256) (ho : o < 256) (hk : (o : Int) % 3 = 2) (hh : HasErr w) (q : Py) (hq : q = z.pay) (y : Py) (hE1 : payE q 7 (1 + (a : Int)) = 0) (hy : payR q 7 (1 + (a : Int)) = y) (hE : ¬ payE q 7 (1 + (a : Int) + (1 + (b : Int))) = 0) (hE2 : ¬ payE y 7 (1 + (b : Int)) = 0) :
    Calls Tryd.prog 6 #[z.val, .int .u8 (a : Int), .int .u8 (b : Int), .int .u8 (o : Int)] w fun e w' => e = .returned (.bool true) ∧ Below w.heap.size w w' := by
  have HA := Lib.hid (fun W => paid_any z hz W)
  rw [← hq] at HA
  have HW := Lib.hid (fun W => do_any q 7 (1 + (a : Int) + (1 + (b : Int))) W)
  have HO := Lib.hid (fun W => do_any q 7 (1 + (a : Int)) W)
  have HT := Lib.hid (fun W => do_any y 7 (1 + (b : Int)) W)
  rw [payR_err hE] at HW
  rw [hE1, hy] at HO
  rw [payR_err hE2] at HT
  obtain ⟨eHW, hHW⟩ : ∃ x, payE q 7 (1 + (a : Int) + (1 + (b : Int))) = x := ⟨_, rfl⟩
  rw [hHW] at HW hE
  obtain ⟨eHT, hHT⟩ : ∃ x, payE y 7 (1 + (b : Int)) = x := ⟨_, rfl⟩
  rw [hHT] at HT hE2
  unfold PayRes Py.val Py.zero errV at HW
  rw [if_neg hE] at HW
  unfold PayRes Py.val errV at HO
  rw [if_pos rfl] at HO
  unfold PayRes Py.val Py.zero errV at HT
  rw [if_neg hE2] at HT
  obtain ⟨qf, qd, qa, qc, qr, qg, qt, qs⟩ := q
  obtain ⟨yf, yd, ya, yc, yr, yg, yt, ys⟩ := y
  dsimp only at HW HO HT
  clear hHT hHW hy hE2 hE1 hE
  obtain ⟨zf, zt, za, zc, zr, zg, zu, zl⟩ := z
  unfold PyRes Py.val at HA
  unfold Pd.val at HA ⊢
  dsimp only at HA ⊢
  have H1 := Lib.hid (Pd8.new w zf zt za zc zr zg zu zl)
  have HB0 := Lib.hid ((Below.refl w.heap.size w).alloc (Nat.le_refl _) (.cells #[.int .u8 (zf : Int), .int .u8 (zt : Int), .int .u8 (za : Int), .int .u8 (zc : Int), .int .u8 (zr : Int), .int .u8 (zg : Int), .int .u8 (zu : Int), .bool zl] 23))
  have HP := Lib.hid (pawake_ok (w.alloc (.cells #[.int .u8 (zf : Int), .int .u8 (zt : Int), .int .u8 (za : Int), .int .u8 (zc : Int), .int .u8 (zr : Int), .int .u8 (zg : Int), .int .u8 (zu : Int), .bool zl] 23)) (hh.below HB0.out))
  have HH := Lib.hid hh
  clear hq hz hh
  go_enter Tryd.func6, Tryd.ntmps6
  go_wp2_with fail
  refine HP.out.mono ?_
  rintro _ w1 ⟨rfl, hb1⟩
  obtain ⟨x0, x1, x2, x3, x4, x5, x6, x7⟩ := (H1.out.below hb1 (by simp)).cells
  have HB1 := Lib.hid (HB0.out.trans (hb1.mono (by simp)))
  clear hb1 H1 HB0 HP
  go_wp2_with fail
  refine (HA.out _).mono ?_
  rintro _ w2 ⟨rfl, hb2⟩
  have HX2 := Lib.hid (Py8.new w2 28 qf qd qa qc qr qg qt qs)
  have HB2 := Lib.hid ((HB1.out.trans (hb2.mono HB1.out.size)).alloc (Nat.le_trans HB1.out.size hb2.size) (.cells #[.int .i64 qf, .int .i64 qd, .int .i64 qa, .int .i64 qc, .int .i64 qr, .int .i64 qg, .int .i64 qt, .int .i64 qs] 28))
  clear x0 x1 x2 x3 x4 x5 x6 x7 hb2 HB1 HA
  have HX2b := Lib.hid (HX2.out.alloc (.cells #[.int .i64 4, .int .i64 6, .int .i64 7] 35) (by simp))
  have HB2b := Lib.hid (HB2.out.alloc (by have := HB2.out.size; omega) (.cells #[.int .i64 4, .int .i64 6, .int .i64 7] 35))
  clear HX2 HB2
  go_wp2_with fail
  refine (HW.out _).mono ?_
  rintro _ w3 ⟨rfl, hb3⟩
  have hz3 : w2.heap.size + 1 < w3.heap.size := by have := hb3.size; simp at this; omega
  have HX3 := Lib.hid ((HX2b.out.below hb3 (by simp; omega)).alloc (.cells #[.int .i64 0, .int .i64 0, .int .i64 0, .int .i64 0, .int .i64 0, .int .i64 0, .int .i64 0, .int .i64 0] 28) (by omega))
  obtain ⟨x0, x1, x2, x3, x4, x5, x6, x7⟩ := (HX2b.out.below hb3 (by simp; omega)).cells
  replace hz3 : w2.heap.size < w3.heap.size := by omega
  have HV3 := Lib.hid (Py8.new w3 28 0 0 0 0 0 0 0 0)
  have HB3 := Lib.hid ((HB2b.out.trans (hb3.mono HB2b.out.size)).alloc (Nat.le_trans HB2b.out.size hb3.size) (.cells #[.int .i64 0, .int .i64 0, .int .i64 0, .int .i64 0, .int .i64 0, .int .i64 0, .int .i64 0, .int .i64 0] 28))
  clear hb3 HB2b HX2b HW
  go_wp2_with fail
  refine (HO.out _).mono ?_
  rintro _ w4 ⟨rfl, hb4⟩
  clear x0 x1 x2 x3 x4 x5 x6 x7
  have hz4 : w3.heap.size < w4.heap.size := by have := hb4.size; simp at this; omega
  have HV4 := Lib.hid ((HV3.out.below hb4 (by simp)).alloc (.cells #[.int .i64 yf, .int .i64 yd, .int .i64 ya, .int .i64 yc, .int .i64 yr, .int .i64 yg, .int .i64 yt, .int .i64 ys] 28) hz4)
  have HY4 := Lib.hid (Py8.new w4 28 yf yd ya yc yr yg yt ys)
  have HB4 := Lib.hid ((HB3.out.trans (hb4.mono HB3.out.size)).alloc (Nat.le_trans HB3.out.size hb4.size) (.cells #[.int .i64 yf, .int .i64 yd, .int .i64 ya, .int .i64 yc, .int .i64 yr, .int .i64 yg, .int .i64 yt, .int .i64 ys] 28))
  clear hb4 HB3 HV3 HO
  go_wp2_with fail
  refine (HT.out _).mono ?_
  rintro _ w5 ⟨rfl, hb5⟩
  have hz5 : w4.heap.size < w5.heap.size := by have := hb5.size; simp at this; omega
  obtain ⟨v0, v1, v2, v3, v4, v5, v6, v7⟩ := ((HV4.out.below hb5 (by simp; omega)).alloc (.cells #[.int .i64 0, .int .i64 0, .int .i64 0, .int .i64 0, .int .i64 0, .int .i64 0, .int .i64 0, .int .i64 0] 28) (by omega)).cells
  have HB5 := Lib.hid ((HB4.out.trans (hb5.mono HB4.out.size)).alloc (Nat.le_trans HB4.out.size hb5.size) (.cells #[.int .i64 0, .int .i64 0, .int .i64 0, .int .i64 0, .int .i64 0, .int .i64 0, .int .i64 0, .int .i64 0] 28))
  clear hb5 HB4 HV4 HY4 HT
  go_wp2
  go_quiet (fail)
  go_wp2
  go_ret
  exact ⟨rfl, below_drewN HB5.out _⟩

set_option maxRecDepth 100000 in
set_option maxHeartbeats 1000000 in
theorem paymentParts_7_all (w : World) (z : Pd) (hz : z.fits) (a b o : Nat) (ha : a < 256) (hb : b < 256) (ho : o < 256) (hk : (o : Int) % 3 = 2) (hh : HasErr w) (q : Py) (hq : q = z.pay) (y v : Py) (hE1 : payE q 7 (1 + (a : Int)) = 0) (hy : payR q 7 (1 + (a : Int)) = y) (hE : payE q 7 (1 + (a : Int) + (1 + (b : Int))) = 0) (hE2 : payE y 7 (1 + (b : Int)) = 0) (hv : payR q 7 (1 + (a : Int) + (1 + (b : Int))) = v) (hv2 : payR y 7 (1 + (b : Int)) = v) :
    Calls Tryd.prog 6 #[z.val, .int .u8 (a : Int), .int .u8 (b : Int), .int .u8 (o : Int)] w fun e w' => e = .returned (.bool true) ∧ Below w.heap.size w w' := by
  have HA := Lib.hid (fun W => paid_any z hz W)
  rw [← hq] at HA
  have HW := Lib.hid (fun W => do_any q 7 (1 + (a : Int) + (1 + (b : Int))) W)
  have HO := Lib.hid (fun W => do_any q 7 (1 + (a : Int)) W)
  have HT := Lib.hid (fun W => do_any y 7 (1 + (b : Int)) W)
  rw [hE, hv] at HW
  rw [hE1, hy] at HO
  rw [hE2, hv2] at HT
  unfold PayRes Py.val errV at HW
  rw [if_pos rfl] at HW
  unfold PayRes Py.val errV at HO
  rw [if_pos rfl] at HO
  unfold PayRes Py.val errV at HT
  rw [if_pos rfl] at HT
  obtain ⟨qf, qd, qa, qc, qr, qg, qt, qs⟩ := q
  obtain ⟨yf, yd, ya, yc, yr, yg, yt, ys⟩ := y
  obtain ⟨vf, vd, va, vc, vr, vg, vt, vs⟩ := v
  dsimp only at HW HO HT
  clear hv2 hv hy hE2 hE1 hE
  obtain ⟨zf, zt, za, zc, zr, zg, zu, zl⟩ := z
  unfold PyRes Py.val at HA
  unfold Pd.val at HA ⊢
  dsimp only at HA ⊢
  have H1 := Lib.hid (Pd8.new w zf zt za zc zr zg zu zl)
  have HB0 := Lib.hid ((Below.refl w.heap.size w).alloc (Nat.le_refl _) (.cells #[.int .u8 (zf : Int), .int .u8 (zt : Int), .int .u8 (za : Int), .int .u8 (zc : Int), .int .u8 (zr : Int), .int .u8 (zg : Int), .int .u8 (zu : Int), .bool zl] 23))
  have HP := Lib.hid (pawake_ok (w.alloc (.cells #[.int .u8 (zf : Int), .int .u8 (zt : Int), .int .u8 (za : Int), .int .u8 (zc : Int), .int .u8 (zr : Int), .int .u8 (zg : Int), .int .u8 (zu : Int), .bool zl] 23)) (hh.below HB0.out))
  have HH := Lib.hid hh
  clear hq hz hh
  go_enter Tryd.func6, Tryd.ntmps6
  go_wp2_with fail
  refine HP.out.mono ?_
  rintro _ w1 ⟨rfl, hb1⟩
  obtain ⟨x0, x1, x2, x3, x4, x5, x6, x7⟩ := (H1.out.below hb1 (by simp)).cells
  have HB1 := Lib.hid (HB0.out.trans (hb1.mono (by simp)))
  clear hb1 H1 HB0 HP
  go_wp2_with fail
  refine (HA.out _).mono ?_
  rintro _ w2 ⟨rfl, hb2⟩
  have HX2 := Lib.hid (Py8.new w2 28 qf qd qa qc qr qg qt qs)
  have HB2 := Lib.hid ((HB1.out.trans (hb2.mono HB1.out.size)).alloc (Nat.le_trans HB1.out.size hb2.size) (.cells #[.int .i64 qf, .int .i64 qd, .int .i64 qa, .int .i64 qc, .int .i64 qr, .int .i64 qg, .int .i64 qt, .int .i64 qs] 28))
  clear x0 x1 x2 x3 x4 x5 x6 x7 hb2 HB1 HA
  have HX2b := Lib.hid (HX2.out.alloc (.cells #[.int .i64 4, .int .i64 6, .int .i64 7] 35) (by simp))
  have HB2b := Lib.hid (HB2.out.alloc (by have := HB2.out.size; omega) (.cells #[.int .i64 4, .int .i64 6, .int .i64 7] 35))
  clear HX2 HB2
  go_wp2_with fail
  refine (HW.out _).mono ?_
  rintro _ w3 ⟨rfl, hb3⟩
  have hz3 : w2.heap.size + 1 < w3.heap.size := by have := hb3.size; simp at this; omega
  have HX3 := Lib.hid ((HX2b.out.below hb3 (by simp; omega)).alloc (.cells #[.int .i64 vf, .int .i64 vd, .int .i64 va, .int .i64 vc, .int .i64 vr, .int .i64 vg, .int .i64 vt, .int .i64 vs] 28) (by omega))
  obtain ⟨x0, x1, x2, x3, x4, x5, x6, x7⟩ := (HX2b.out.below hb3 (by simp; omega)).cells
  replace hz3 : w2.heap.size < w3.heap.size := by omega
  have HV3 := Lib.hid (Py8.new w3 28 vf vd va vc vr vg vt vs)
  have HB3 := Lib.hid ((HB2b.out.trans (hb3.mono HB2b.out.size)).alloc (Nat.le_trans HB2b.out.size hb3.size) (.cells #[.int .i64 vf, .int .i64 vd, .int .i64 va, .int .i64 vc, .int .i64 vr, .int .i64 vg, .int .i64 vt, .int .i64 vs] 28))
  clear hb3 HB2b HX2b HW
  go_wp2_with fail
  refine (HO.out _).mono ?_
  rintro _ w4 ⟨rfl, hb4⟩
  clear x0 x1 x2 x3 x4 x5 x6 x7
  have hz4 : w3.heap.size < w4.heap.size := by have := hb4.size; simp at this; omega
  have HV4 := Lib.hid ((HV3.out.below hb4 (by simp)).alloc (.cells #[.int .i64 yf, .int .i64 yd, .int .i64 ya, .int .i64 yc, .int .i64 yr, .int .i64 yg, .int .i64 yt, .int .i64 ys] 28) hz4)
  have HY4 := Lib.hid (Py8.new w4 28 yf yd ya yc yr yg yt ys)
  have HB4 := Lib.hid ((HB3.out.trans (hb4.mono HB3.out.size)).alloc (Nat.le_trans HB3.out.size hb4.size) (.cells #[.int .i64 yf, .int .i64 yd, .int .i64 ya, .int .i64 yc, .int .i64 yr, .int .i64 yg, .int .i64 yt, .int .i64 ys] 28))
  clear hb4 HB3 HV3 HO
  go_wp2_with fail
  refine (HT.out _).mono ?_
  rintro _ w5 ⟨rfl, hb5⟩
  have hz5 : w4.heap.size < w5.heap.size := by have := hb5.size; simp at this; omega
  obtain ⟨v0, v1, v2, v3, v4, v5, v6, v7⟩ := ((HV4.out.below hb5 (by simp; omega)).alloc (.cells #[.int .i64 vf, .int .i64 vd, .int .i64 va, .int .i64 vc, .int .i64 vr, .int .i64 vg, .int .i64 vt, .int .i64 vs] 28) (by omega)).cells
  have HB5 := Lib.hid ((HB4.out.trans (hb5.mono HB4.out.size)).alloc (Nat.le_trans HB4.out.size hb5.size) (.cells #[.int .i64 vf, .int .i64 vd, .int .i64 va, .int .i64 vc, .int .i64 vr, .int .i64 vg, .int .i64 vt, .int .i64 vs] 28))
  clear hb5 HB4 HV4 HY4 HT
  go_wp2
  go_quiet (fail)
  go_wp2
  go_ret
  exact ⟨rfl, below_drewN HB5.out _⟩

theorem paymentParts_7 (w : World) (z : Pd) (hz : z.fits) (a b o : Nat) (ha : a < 256) (hb : b < 256) (ho : o < 256) (hk : (o : Int) % 3 = 2) (hh : HasErr w) :
    Calls Tryd.prog 6 #[z.val, .int .u8 (a : Int), .int .u8 (b : Int), .int .u8 (o : Int)] w fun e w' => e = .returned (.bool true) ∧ Below w.heap.size w w' := by
  obtain ⟨p1, p2⟩ := parts_7 (z.right hz) (n := 1 + (a : Int)) (m := 1 + (b : Int)) (by omega) (by omega)
  by_cases hE1 : payE z.pay 7 (1 + (a : Int)) = 0
  · have hy : payR z.pay 7 (1 + (a : Int)) = payP z.pay 7 (1 + (a : Int)) := by unfold payR; rw [if_pos hE1]
    obtain ⟨q1, q2⟩ := p2 hE1
    by_cases hE : payE z.pay 7 (1 + (a : Int) + (1 + (b : Int))) = 0
    · exact paymentParts_7_all w z hz a b o ha hb ho hk hh _ rfl _ _ hE1 hy hE (q1.1 hE) rfl q2.symm
    · exact paymentParts_7_none w z hz a b o ha hb ho hk hh _ rfl _ hE1 hy hE (fun h => hE (q1.2 h))
  · exact paymentParts_7_bad w z hz a b o ha hb ho hk hh _ rfl hE1 (p1 hE1)

theorem paymentParts_walk (w : World) (z : Pd) (hz : z.fits) (a : Int) (ha : (Lit.int .u8 a).wf = true) (b : Int) (hb : (Lit.int .u8 b).wf = true) (o : Int) (ho : (Lit.int .u8 o).wf = true) (hh : HasErr w) :
    Calls Tryd.prog 6 #[z.val, .int .u8 a, .int .u8 b, .int .u8 o] w fun e w' => e = .returned (.bool true) ∧ Below w.heap.size w w' := by
  obtain ⟨a, rfl, la⟩ := u8_nat ha
  obtain ⟨b, rfl, lb⟩ := u8_nat hb
  obtain ⟨o, rfl, lo⟩ := u8_nat ho
  rcases (show (o : Int) % 3 = 0 ∨ (o : Int) % 3 = 1 ∨ (o : Int) % 3 = 2 by omega) with h | h | h
  · exact paymentParts_4 w z hz a b o la lb lo h hh
  · exact paymentParts_6 w z hz a b o la lb lo h hh
  · exact paymentParts_7 w z hz a b o la lb lo h hh
end Go.Proofs.YtenghafnpmlbnaaDoor
