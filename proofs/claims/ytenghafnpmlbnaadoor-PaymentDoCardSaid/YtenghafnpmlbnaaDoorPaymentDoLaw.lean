/-
  The statement PaymentDo by its walk.
-/
import Derived.Test.YtenghafnpmlbnaaDoorPayAwake
import Derived.Test.YtenghafnpmlbnaaDoorPaid
import Derived.Test.YtenghafnpmlbnaaDoorPayCells
import Derived.Test.YtenghafnpmlbnaaDoorPayLawDo
import Derived.Test.YtenghafnpmlbnaaDoorArgNat
namespace Go.Proofs.YtenghafnpmlbnaaDoor
open Go Go.RowKit
set_option linter.unusedVariables false

set_option maxRecDepth 100000 in
set_option maxHeartbeats 1000000 in
theorem paymentDo_nat (w : World) (z : Pd) (hz : z.fits) (op : Int) (hop : -128 ≤ op ∧ op ≤ 127) (n : Int) (sm : Nat) (hsm : sm < 256) (hh : HasErr w) :
    Calls Tryd.prog 3 #[z.val, .int .i8 op, .int .i64 n, .int .u8 (sm : Int)] w fun e w' => e = .returned (.bool true) ∧ Below w.heap.size w w' := by
  have HA := Lib.hid (fun W => paid_any z hz W)
  have hx := z.right hz
  obtain ⟨⟨qf, qd, qa, qc, qr, qg, qt, qs⟩, hq⟩ : ∃ q, q = z.pay := ⟨_, rfl⟩
  rw [← hq] at HA hx
  obtain ⟨zf, zt, za, zc, zr, zg, zu, zl⟩ := z
  unfold PyRes Py.val at HA
  unfold Pd.val at HA ⊢
  dsimp only at HA ⊢
  have H1 := Lib.hid (Pd8.new w zf zt za zc zr zg zu zl)
  have HB0 := Lib.hid ((Below.refl w.heap.size w).alloc (Nat.le_refl _) (.cells #[.int .u8 (zf : Int), .int .u8 (zt : Int), .int .u8 (za : Int), .int .u8 (zc : Int), .int .u8 (zr : Int), .int .u8 (zg : Int), .int .u8 (zu : Int), .bool zl] 23))
  have HP := Lib.hid (pawake_ok (w.alloc (.cells #[.int .u8 (zf : Int), .int .u8 (zt : Int), .int .u8 (za : Int), .int .u8 (zc : Int), .int .u8 (zr : Int), .int .u8 (zg : Int), .int .u8 (zu : Int), .bool zl] 23)) (hh.below HB0.out))
  have HH := Lib.hid hh
  clear hq hz hh
  have HD := Lib.hid (fun x W => do_any ⟨qf, qd, qa, qc, qr, qg, qt, qs⟩ op x W)
  have HW := Lib.hid (fun x W => lawdo_any ⟨qf, qd, qa, qc, qr, qg, qt, qs⟩ op x W)
  clear hx
  go_enter Tryd.func3, Tryd.ntmps3
  go_wp2_with fail
  refine HP.out.mono ?_
  rintro _ w1 ⟨rfl, hb1⟩
  obtain ⟨x0, x1, x2, x3, x4, x5, x6, x7⟩ := (H1.out.below hb1 (by simp)).cells
  have HB1 := Lib.hid (HB0.out.trans (hb1.mono (by simp)))
  clear hb1 H1 HB0 HP
  go_wp2_with fail
  refine (HA.out _).mono ?_
  rintro _ w2 ⟨rfl, hb2⟩
  have HX2 := Lib.hid (Py8.new w2 28 qf qd qa qc qr qg qt qs)
  have HB2 := Lib.hid ((HB1.out.trans (hb2.mono HB1.out.size)).alloc (Nat.le_trans HB1.out.size hb2.size) (.cells #[.int .i64 qf, .int .i64 qd, .int .i64 qa, .int .i64 qc, .int .i64 qr, .int .i64 qg, .int .i64 qt, .int .i64 qs] 28))
  clear x0 x1 x2 x3 x4 x5 x6 x7 hb2 HB1 HA
  obtain ⟨W3, hW3⟩ : ∃ W3, W3 = (w2.alloc (.cells #[.int .i64 qf, .int .i64 qd, .int .i64 qa, .int .i64 qc, .int .i64 qr, .int .i64 qg, .int .i64 qt, .int .i64 qs] 28)).alloc (.cells #[.int .i64 n, .int .i64 (sm : Int)] 3) := ⟨_, rfl⟩
  have hs3 : W3.heap.size = w2.heap.size + 2 := by rw [hW3]; simp
  have hX3 : Py8 W3 w2.heap.size 28 qf qd qa qc qr qg qt qs := by rw [hW3]; exact HX2.out.alloc _ (by simp)
  have hS3 : W3.heap[w2.heap.size + 1]? = some (.cells #[.int .i64 n, .int .i64 (sm : Int)] 3 (0, 0)) := by rw [hW3]; exact heap_alloc2_new w2 _ _
  have hB3 : Below w.heap.size w W3 := by rw [hW3]; exact HB2.out.alloc HB2.out.size _
  have hlt3 : w2.heap.size + 1 < W3.heap.size := by omega
  have HX3 := Lib.hid hX3
  have HS3 := Lib.hid hS3
  have HB3 := Lib.hid hB3
  clear hX3 hS3 hB3 hs3 HX2 HB2
  go_wp2
  rw [← hW3]
  clear hW3
  go_loopw [25] (fun i wr => ∃ k : Nat, k ≤ 2 ∧ i = .int .i64 (k : Int) ∧ Below W3.heap.size W3 wr) (fun i _ => 2 - (intOf i).toNat)
  case atStart => exact ⟨0, Nat.zero_le _, rfl, Below.refl _ _⟩
  case round =>
    obtain ⟨k, hk, rfl, hbel⟩ := hrel
    have HBEL := Lib.hid hbel
    have hszr := hbel.size
    clear hbel
    by_cases hlt : k < 2
    · obtain ⟨x, hx⟩ : ∃ x, x = (if k = 0 then n else (sm : Int)) := ⟨_, rfl⟩
      have c0 : wr.cell? ⟨w2.heap.size + 1, k, none⟩ = some (.int .i64 x) := by
        rw [HBEL.out.cell (p := ⟨w2.heap.size + 1, k, none⟩) hlt3, hx]
        rcases (show k = 0 ∨ k = 1 by omega) with rfl | rfl
        · exact cell_of_row W3 _ 0 _ _ (0, 0) HS3.out
        · exact cell_of_row W3 _ 1 _ _ (0, 0) HS3.out
      have c1 : wr.cell? ((⟨w2.heap.size + 1, 0, none⟩ : Addr).add k) = some (.int .i64 x) := by rw [add_flat]; exact c0
      have HXr := Lib.hid (HX3.out.below HBEL.out (by omega))
      obtain ⟨x0, x1, x2, x3, x4, x5, x6, x7⟩ := HXr.out.cells
      have HDx := Lib.hid (HD.out x)
      have HWx := Lib.hid (HW.out x)
      obtain ⟨⟨rf, rd, ra, rc, rr, rg, rt, rs⟩, hR⟩ : ∃ R, payR ⟨qf, qd, qa, qc, qr, qg, qt, qs⟩ op x = R := ⟨_, rfl⟩
      obtain ⟨E, hE⟩ : ∃ E, payE ⟨qf, qd, qa, qc, qr, qg, qt, qs⟩ op x = E := ⟨_, rfl⟩
      rw [hR, hE] at HDx HWx
      unfold PayRes Py.val at HDx
      unfold PayNum Py.val at HWx
      dsimp only at HDx HWx
      clear hR hE hx
      have ee := beq_self_eq_true E
      go_wp2_with fail
      refine (HDx.out _).mono ?_
      rintro _ w5 ⟨rfl, hb5⟩
      have hz5 : w2.heap.size < w5.heap.size := by have := hb5.size; omega
      have HX5 := Lib.hid ((HXr.out.below hb5 (by omega)).alloc (.cells #[.int .i64 rf, .int .i64 rd, .int .i64 ra, .int .i64 rc, .int .i64 rr, .int .i64 rg, .int .i64 rt, .int .i64 rs] 28) (by omega))
      have HR5 := Lib.hid (Py8.new w5 28 rf rd ra rc rr rg rt rs)
      have HB5 := Lib.hid ((HBEL.out.trans (hb5.mono hszr)).alloc (Nat.le_trans hszr hb5.size) (.cells #[.int .i64 rf, .int .i64 rd, .int .i64 ra, .int .i64 rc, .int .i64 rr, .int .i64 rg, .int .i64 rt, .int .i64 rs] 28))
      replace x0 := (HXr.out.below hb5 (by omega)).cells
      clear x1 x2 x3 x4 x5 x6 x7 c0 c1
      obtain ⟨x0, x1, x2, x3, x4, x5, x6, x7⟩ := x0
      clear hb5 HXr HDx
      go_wp2_with fail
      refine (HWx.out _).mono ?_
      rintro _ w6 ⟨rfl, hb6⟩
      clear x0 x1 x2 x3 x4 x5 x6 x7
      have hz6 : w5.heap.size < w6.heap.size := by have := hb6.size; simp at this; omega
      obtain ⟨y0, y1, y2, y3, y4, y5, y6, y7⟩ := (HR5.out.below hb6 (by simp)).cells
      have HB6 := Lib.hid ((HB5.out.trans (hb6.mono HB5.out.size)).alloc (Nat.le_trans HB5.out.size hb6.size) (.cells #[.int .i64 rf, .int .i64 rd, .int .i64 ra, .int .i64 rc, .int .i64 rr, .int .i64 rg, .int .i64 rt, .int .i64 rs] 28))
      have HE6 := Lib.hid (HH.out.below (HB3.out.trans (HB6.out.mono HB3.out.size)))
      have HN := Lib.hid (number_of E _ HE6.out)
      clear hb6 HX5 HR5 HB5 HWx HE6
      go_wp2_with (first | (go_at_call 13; refine HN.out.mono ?_; rintro e w7 ⟨rfl, hb7⟩))
      go_roundw
      case rel => exact ⟨k + 1, by omega, by go_num, HB6.out.trans (hb7.mono HB6.out.size)⟩
      case measure => simp [intOf]; omega
    · obtain rfl : k = 2 := by omega
      go_wp2
      go_ret
      exact ⟨rfl, HB3.out.trans (HBEL.out.mono HB3.out.size)⟩

theorem paymentDo_walk (w : World) (z : Pd) (hz : z.fits) (op : Int) (ho : (Lit.int .i8 op).wf = true) (n : Int) (hn : (Lit.int .i64 n).wf = true) (sm : Int) (hsm : (Lit.int .u8 sm).wf = true) (hh : HasErr w) :
    Calls Tryd.prog 3 #[z.val, .int .i8 op, .int .i64 n, .int .u8 sm] w fun e w' => e = .returned (.bool true) ∧ Below w.heap.size w w' := by
  obtain ⟨sm, rfl, lsm⟩ := u8_nat hsm
  have hop : -128 ≤ op ∧ op ≤ 127 := by
    simp only [Lit.wf, Bool.and_eq_true, decide_eq_true_eq] at ho
    have e1 : IntKind.i8.min = -128 := rfl
    have e2 : IntKind.i8.max = 127 := rfl
    omega
  exact paymentDo_nat w z hz op hop n sm lsm hh
end Go.Proofs.YtenghafnpmlbnaaDoor
