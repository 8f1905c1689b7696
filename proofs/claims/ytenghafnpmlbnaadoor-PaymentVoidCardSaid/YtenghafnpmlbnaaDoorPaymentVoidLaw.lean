/-
  The statement PaymentVoid by its walk.
-/
import Derived.Test.YtenghafnpmlbnaaDoorPayAwake
import Derived.Test.YtenghafnpmlbnaaDoorPaid
import Derived.Test.YtenghafnpmlbnaaDoorPayCells
import Derived.Test.YtenghafnpmlbnaaDoorPaySmall
import Derived.Deep.RegionWith
namespace Go.Proofs.YtenghafnpmlbnaaDoor
open Go Go.RowKit
set_option linter.unusedVariables false

theorem void_open (f d a c r g t s n : Int) (h : s = 0) : payE ⟨f, d, a, c, r, g, t, s⟩ 5 n = 0 ∧ payR ⟨f, d, a, c, r, g, t, s⟩ 5 n = ⟨f, d, a, c, r, g, t, 1⟩ := by
  have hE : payE ⟨f, d, a, c, r, g, t, s⟩ 5 n = 0 := by simp [payE, h]
  exact ⟨hE, by unfold payR; rw [if_pos hE]; simp [payP]⟩
theorem void_shut (f d a c r g t s n : Int) (h : ¬ s = 0) : payE ⟨f, d, a, c, r, g, t, s⟩ 5 n = 6 ∧ payR ⟨f, d, a, c, r, g, t, s⟩ 5 n = Py.zero := by
  have hE : payE ⟨f, d, a, c, r, g, t, s⟩ 5 n = 6 := by simp [payE, h]
  exact ⟨hE, by unfold payR; rw [if_neg (by rw [hE]; decide)]⟩
theorem capture_shut (f d a c r g t : Int) : payE ⟨f, d, a, c, r, g, t, 1⟩ 4 1 = 6 ∧ payR ⟨f, d, a, c, r, g, t, 1⟩ 4 1 = Py.zero := by
  have hE : payE ⟨f, d, a, c, r, g, t, 1⟩ 4 1 = 6 := by simp [payE, leftP, excE]
  exact ⟨hE, by unfold payR; rw [if_neg (by rw [hE]; decide)]⟩

set_option maxRecDepth 100000 in
set_option maxHeartbeats 1000000 in
theorem paymentVoid_shut (w : World) (z : Pd) (hz : z.fits) (n : Int) (hh : HasErr w) (hst : ¬ z.pay.stg = 0) :
    Calls Tryd.prog 8 #[z.val, .int .i64 n] w fun e w' => e = .returned (.bool true) ∧ Below w.heap.size w w' := by
  have HA := Lib.hid (fun W => paid_any z hz W)
  have hx := z.right hz
  have hst' := hst
  obtain ⟨⟨qf, qd, qa, qc, qr, qg, qt, qs⟩, hq⟩ : ∃ q, q = z.pay := ⟨_, rfl⟩
  rw [← hq] at HA hx hst'
  dsimp only at hst'
  obtain ⟨zf, zt, za, zc, zr, zg, zu, zl⟩ := z
  unfold PyRes Py.val at HA
  unfold Pd.val at HA ⊢
  dsimp only at HA ⊢
  have H1 := Lib.hid (Pd8.new w zf zt za zc zr zg zu zl)
  have HB0 := Lib.hid ((Below.refl w.heap.size w).alloc (Nat.le_refl _) (.cells #[.int .u8 (zf : Int), .int .u8 (zt : Int), .int .u8 (za : Int), .int .u8 (zc : Int), .int .u8 (zr : Int), .int .u8 (zg : Int), .int .u8 (zu : Int), .bool zl] 23))
  have HP := Lib.hid (pawake_ok (w.alloc (.cells #[.int .u8 (zf : Int), .int .u8 (zt : Int), .int .u8 (za : Int), .int .u8 (zc : Int), .int .u8 (zr : Int), .int .u8 (zg : Int), .int .u8 (zu : Int), .bool zl] 23)) (hh.below HB0.out))
  have HH := Lib.hid hh
  clear hq hz hh hst
  have hs1 : qs = 1 := by have h5 := hx.2.2.2.2; dsimp only at h5; omega
  subst hs1
  have HD := Lib.hid (fun W => do_any ⟨qf, qd, qa, qc, qr, qg, qt, 1⟩ 5 n W)
  obtain ⟨hE, hR⟩ := void_shut qf qd qa qc qr qg qt 1 n (by decide)
  rw [hE, hR] at HD
  unfold PayRes Py.val Py.zero errV at HD
  rw [if_neg (by decide)] at HD
  dsimp only at HD
  clear hx hE hR hst'
  go_enter Tryd.func8, Tryd.ntmps8
  go_wp2_with fail
  refine HP.out.mono ?_
  rintro _ w1 ⟨rfl, hb1⟩
  obtain ⟨x0, x1, x2, x3, x4, x5, x6, x7⟩ := (H1.out.below hb1 (by simp)).cells
  have HB1 := Lib.hid (HB0.out.trans (hb1.mono (by simp)))
  clear hb1 H1 HB0 HP
  go_wp2_with fail
  refine (HA.out _).mono ?_
  rintro _ w2 ⟨rfl, hb2⟩
  have HX2 := Lib.hid (Py8.new w2 28 qf qd qa qc qr qg qt 1)
  have HB2 := Lib.hid ((HB1.out.trans (hb2.mono HB1.out.size)).alloc (Nat.le_trans HB1.out.size hb2.size) (.cells #[.int .i64 qf, .int .i64 qd, .int .i64 qa, .int .i64 qc, .int .i64 qr, .int .i64 qg, .int .i64 qt, .int .i64 1] 28))
  clear x0 x1 x2 x3 x4 x5 x6 x7 hb2 HB1 HA
  go_wp2_with fail
  refine (HD.out _).mono ?_
  rintro _ w3 ⟨rfl, hb3⟩
  have k7 := (HX2.out.below hb3 (by simp)).cells.2.2.2.2.2.2.2
  have hz3 : w2.heap.size < w3.heap.size := by have := hb3.size; simp at this; omega
  have HB3 := Lib.hid ((HB2.out.trans (hb3.mono HB2.out.size)).alloc (Nat.le_trans HB2.out.size hb3.size) (.cells #[.int .i64 0, .int .i64 0, .int .i64 0, .int .i64 0, .int .i64 0, .int .i64 0, .int .i64 0, .int .i64 0] 28))
  have HN := Lib.hid (number_of 6 _ (HH.out.below HB3.out))
  clear hb3 HB2 HX2 HD HH
  go_wp2_with (first | (go_at_call 13; refine HN.out.mono ?_; rintro e w4 ⟨rfl, hb4⟩))
  go_ret
  exact ⟨rfl, HB3.out.trans (hb4.mono HB3.out.size)⟩

set_option maxRecDepth 100000 in
set_option maxHeartbeats 1000000 in
theorem paymentVoid_open (w : World) (z : Pd) (hz : z.fits) (n : Int) (hh : HasErr w) (hst : z.pay.stg = 0) :
    Calls Tryd.prog 8 #[z.val, .int .i64 n] w fun e w' => e = .returned (.bool true) ∧ Below w.heap.size w w' := by
  have HA := Lib.hid (fun W => paid_any z hz W)
  have hx := z.right hz
  have hst' := hst
  obtain ⟨⟨qf, qd, qa, qc, qr, qg, qt, qs⟩, hq⟩ : ∃ q, q = z.pay := ⟨_, rfl⟩
  rw [← hq] at HA hx hst'
  dsimp only at hst'
  obtain ⟨zf, zt, za, zc, zr, zg, zu, zl⟩ := z
  unfold PyRes Py.val at HA
  unfold Pd.val at HA ⊢
  dsimp only at HA ⊢
  have H1 := Lib.hid (Pd8.new w zf zt za zc zr zg zu zl)
  have HB0 := Lib.hid ((Below.refl w.heap.size w).alloc (Nat.le_refl _) (.cells #[.int .u8 (zf : Int), .int .u8 (zt : Int), .int .u8 (za : Int), .int .u8 (zc : Int), .int .u8 (zr : Int), .int .u8 (zg : Int), .int .u8 (zu : Int), .bool zl] 23))
  have HP := Lib.hid (pawake_ok (w.alloc (.cells #[.int .u8 (zf : Int), .int .u8 (zt : Int), .int .u8 (za : Int), .int .u8 (zc : Int), .int .u8 (zr : Int), .int .u8 (zg : Int), .int .u8 (zu : Int), .bool zl] 23)) (hh.below HB0.out))
  have HH := Lib.hid hh
  clear hq hz hh hst
  subst hst'
  have HD := Lib.hid (fun W => do_any ⟨qf, qd, qa, qc, qr, qg, qt, 0⟩ 5 n W)
  obtain ⟨hE, hR⟩ := void_open qf qd qa qc qr qg qt 0 n rfl
  rw [hE, hR] at HD
  unfold PayRes Py.val errV at HD
  rw [if_pos rfl] at HD
  have HV := Lib.hid (fun W => do_any ⟨qf, qd, qa, qc, qr, qg, qt, 1⟩ 5 1 W)
  obtain ⟨hE2, hR2⟩ := void_shut qf qd qa qc qr qg qt 1 1 (by decide)
  rw [hE2, hR2] at HV
  unfold PayRes Py.val Py.zero errV at HV
  rw [if_neg (by decide)] at HV
  have HC := Lib.hid (fun W => do_any ⟨qf, qd, qa, qc, qr, qg, qt, 1⟩ 4 1 W)
  obtain ⟨hE3, hR3⟩ := capture_shut qf qd qa qc qr qg qt
  rw [hE3, hR3] at HC
  unfold PayRes Py.val Py.zero errV at HC
  rw [if_neg (by decide)] at HC
  have HF := Lib.hid (fun W => left_any ⟨qf, qd, qa, qc, qr, qg, qt, 1⟩ W)
  have HG := Lib.hid (fun W => gave_any ⟨qf, qd, qa, qc, qr, qg, qt, 1⟩ W)
  have HG0 := Lib.hid (fun W => gave_any ⟨qf, qd, qa, qc, qr, qg, qt, 0⟩ W)
  unfold leftP at HF
  unfold gaveP at HG HG0
  unfold Py.val at HF HG HG0
  dsimp only at HD HV HC HF HG HG0
  rw [if_neg (show ¬ (1 : Int) = 0 by decide)] at HF
  have vv := beq_self_eq_true (wrap64 (wrap64 (qc - qr) - qg))
  clear hx hE hR hE2 hR2 hE3 hR3
  go_enter Tryd.func8, Tryd.ntmps8
  go_wp2_with fail
  refine HP.out.mono ?_
  rintro _ w1 ⟨rfl, hb1⟩
  obtain ⟨x0, x1, x2, x3, x4, x5, x6, x7⟩ := (H1.out.below hb1 (by simp)).cells
  have HB1 := Lib.hid (HB0.out.trans (hb1.mono (by simp)))
  clear hb1 H1 HB0 HP
  go_wp2_with fail
  refine (HA.out _).mono ?_
  rintro _ w2 ⟨rfl, hb2⟩
  have HX2 := Lib.hid (Py8.new w2 28 qf qd qa qc qr qg qt 0)
  have HB2 := Lib.hid ((HB1.out.trans (hb2.mono HB1.out.size)).alloc (Nat.le_trans HB1.out.size hb2.size) (.cells #[.int .i64 qf, .int .i64 qd, .int .i64 qa, .int .i64 qc, .int .i64 qr, .int .i64 qg, .int .i64 qt, .int .i64 0] 28))
  clear x0 x1 x2 x3 x4 x5 x6 x7 hb2 HB1 HA
  go_wp2_with fail
  refine (HD.out _).mono ?_
  rintro _ w3 ⟨rfl, hb3⟩
  have hz3 : w2.heap.size < w3.heap.size := by have := hb3.size; simp at this; omega
  have HX3 := Lib.hid ((HX2.out.below hb3 (by simp)).alloc (.cells #[.int .i64 qf, .int .i64 qd, .int .i64 qa, .int .i64 qc, .int .i64 qr, .int .i64 qg, .int .i64 qt, .int .i64 1] 28) hz3)
  have k7 := (HX2.out.below hb3 (by simp)).cells.2.2.2.2.2.2.2
  have HY3 := Lib.hid (Py8.new w3 28 qf qd qa qc qr qg qt 1)
  have HB3 := Lib.hid ((HB2.out.trans (hb3.mono HB2.out.size)).alloc (Nat.le_trans HB2.out.size hb3.size) (.cells #[.int .i64 qf, .int .i64 qd, .int .i64 qa, .int .i64 qc, .int .i64 qr, .int .i64 qg, .int .i64 qt, .int .i64 1] 28))
  clear hb3 HB2 HX2 HD
  go_wp2_with fail
  refine (HV.out _).mono ?_
  rintro _ w4 ⟨rfl, hb4⟩
  clear k7
  have hz4 : w3.heap.size < w4.heap.size := by have := hb4.size; simp at this; omega
  have HX4 := Lib.hid ((HX3.out.below hb4 (by simp; omega)).alloc (.cells #[.int .i64 0, .int .i64 0, .int .i64 0, .int .i64 0, .int .i64 0, .int .i64 0, .int .i64 0, .int .i64 0] 28) (by omega))
  have HY4 := Lib.hid ((HY3.out.below hb4 (by simp)).alloc (.cells #[.int .i64 0, .int .i64 0, .int .i64 0, .int .i64 0, .int .i64 0, .int .i64 0, .int .i64 0, .int .i64 0] 28) hz4)
  obtain ⟨y0, y1, y2, y3, y4, y5, y6, y7⟩ := (HY3.out.below hb4 (by simp)).cells
  have HB4 := Lib.hid ((HB3.out.trans (hb4.mono HB3.out.size)).alloc (Nat.le_trans HB3.out.size hb4.size) (.cells #[.int .i64 0, .int .i64 0, .int .i64 0, .int .i64 0, .int .i64 0, .int .i64 0, .int .i64 0, .int .i64 0] 28))
  clear hb4 HB3 HX3 HY3 HV
  go_wp2_with fail
  refine (HC.out _).mono ?_
  rintro _ w5 ⟨rfl, hb5⟩
  clear y0 y1 y2 y3 y4 y5 y6 y7
  have hz5 : w4.heap.size < w5.heap.size := by have := hb5.size; simp at this; omega
  obtain ⟨W6, hW6⟩ : ∃ W6, W6 = w5.alloc (.cells #[.int .i64 0, .int .i64 0, .int .i64 0, .int .i64 0, .int .i64 0, .int .i64 0, .int .i64 0, .int .i64 0] 28) := ⟨_, rfl⟩
  have hs6 : W6.heap.size = w5.heap.size + 1 := by rw [hW6]; simp
  have HX5 := (HX4.out.below hb5 (by simp; omega)).alloc (.cells #[.int .i64 0, .int .i64 0, .int .i64 0, .int .i64 0, .int .i64 0, .int .i64 0, .int .i64 0, .int .i64 0] 28) (by omega)
  have HY5 := (HY4.out.below hb5 (by simp; omega)).alloc (.cells #[.int .i64 0, .int .i64 0, .int .i64 0, .int .i64 0, .int .i64 0, .int .i64 0, .int .i64 0, .int .i64 0] 28) (by omega)
  have HB5 := (HB4.out.trans (hb5.mono HB4.out.size)).alloc (Nat.le_trans HB4.out.size hb5.size) (.cells #[.int .i64 0, .int .i64 0, .int .i64 0, .int .i64 0, .int .i64 0, .int .i64 0, .int .i64 0, .int .i64 0] 28)
  rw [← hW6] at HX5 HY5 HB5
  have HN := Lib.hid (fun p : After W6 => number_of 6 p.world (HH.out.below (HB5.trans (p.below.mono HB5.size))))
  obtain ⟨d0, d1, d2, d3, d4, d5, d6, d7⟩ := HX5.after (by omega)
  obtain ⟨e0, e1, e2, e3, e4, e5, e6, e7⟩ := HY5.after (by omega)
  have HB5 := Lib.hid HB5
  clear hb5 HB4 HX4 HY4 HX5 HY5 HC HH
  go_wp2
  rw [← hW6]
  clear hW6
  refine wp_region_after (by kernel_rfl) (by kernel_rfl) ?_
  repeat (go_big_quiet_step (first
    | (go_at_call 16; exact after_call _ (HF.out _))
    | (go_at_call_of 17 (Value.agg #[.int .i64 qf, .int .i64 qd, .int .i64 qa, .int .i64 qc, .int .i64 qr, .int .i64 qg, .int .i64 qt, .int .i64 1]); exact after_call _ (HG.out _))
    | (go_at_call_of 17 (Value.agg #[.int .i64 qf, .int .i64 qd, .int .i64 qa, .int .i64 qc, .int .i64 qr, .int .i64 qg, .int .i64 qt, .int .i64 0]); exact after_call _ (HG0.out _))
    | (go_at_call 13; exact after_call _ (HN.out _))))
  refine wpQuiet_nil ?_
  intro _ hw'
  obtain ⟨p, rfl⟩ := hw'
  have HB6 := Lib.hid (HB5.out.trans (p.below.mono HB5.out.size))
  clear d0 d1 d2 d3 d4 d5 d6 d7 e0 e1 e2 e3 e4 e5 e6 e7
  go_wp2
  go_ret
  exact ⟨rfl, HB6.out⟩

theorem paymentVoid_walk (w : World) (z : Pd) (hz : z.fits) (n : Int) (hn : (Lit.int .i64 n).wf = true) (hh : HasErr w) :
    Calls Tryd.prog 8 #[z.val, .int .i64 n] w fun e w' => e = .returned (.bool true) ∧ Below w.heap.size w w' := by
  by_cases h : z.pay.stg = 0
  · exact paymentVoid_open w z hz n hh h
  · exact paymentVoid_shut w z hz n hh h
end Go.Proofs.YtenghafnpmlbnaaDoor
