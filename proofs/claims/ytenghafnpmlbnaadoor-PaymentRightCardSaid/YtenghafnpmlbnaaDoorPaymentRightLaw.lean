/-
  The statement PaymentRight by its walk.
-/
import Derived.Test.YtenghafnpmlbnaaDoorPayAwake
import Derived.Test.YtenghafnpmlbnaaDoorPayRight
import Derived.Test.YtenghafnpmlbnaaDoorPayLawRight
import Derived.Test.YtenghafnpmlbnaaDoorPaid
import Derived.Test.YtenghafnpmlbnaaDoorPayCells
import Derived.Deep.RegionWith
namespace Go.Proofs.YtenghafnpmlbnaaDoor
open Go Go.RowKit
set_option linter.unusedVariables false

set_option maxRecDepth 100000 in
set_option maxHeartbeats 1000000 in
theorem paymentRight_walk (w : World) (r : Py) (hr : r.fits) (z : Pd) (hz : z.fits) (hh : HasErr w) :
    Calls Tryd.prog 4 #[r.val, z.val] w fun e w' => e = .returned (.bool true) ∧ Below w.heap.size w w' := by
  obtain ⟨m, hm⟩ : ∃ m, m = decide r.right := ⟨_, rfl⟩
  have HM := Lib.hid (fun W => pright_any r W hr)
  have HL := Lib.hid (fun W => lawright_any r W)
  rw [← hm] at HM HL
  have HA := Lib.hid (fun W => paid_any z hz W)
  have HN := Lib.hid (fun W => pright_any z.pay W (z.pay_fits hz))
  rw [decide_eq_true (z.right hz)] at HN
  have HF := Lib.hid (fun W => left_any z.pay W)
  have HG := Lib.hid (fun W => gave_any z.pay W)
  obtain ⟨f, d, a, c, u, g, t, s⟩ := r
  obtain ⟨⟨qf, qd, qa, qc, qr, qg, qt, qs⟩, hq⟩ : ∃ q, q = z.pay := ⟨_, rfl⟩
  rw [← hq] at HA HN HF HG
  obtain ⟨zf, zt, za, zc, zr, zg, zu, zl⟩ := z
  unfold leftP at HF
  unfold gaveP at HG
  unfold Py.val at HM HL HN HF HG ⊢
  unfold Pd.val PyRes Py.val at HA
  unfold Pd.val
  dsimp only at HM HL HN HA HF HG ⊢
  have mm := beq_self_eq_true m
  have H1 := Lib.hid ((Py8.new w 28 f d a c u g t s).alloc (.cells #[.int .u8 (zf : Int), .int .u8 (zt : Int), .int .u8 (za : Int), .int .u8 (zc : Int), .int .u8 (zr : Int), .int .u8 (zg : Int), .int .u8 (zu : Int), .bool zl] 23) (by simp))
  have HB0 := Lib.hid (((Below.refl w.heap.size w).alloc (Nat.le_refl _) (.cells #[.int .i64 f, .int .i64 d, .int .i64 a, .int .i64 c, .int .i64 u, .int .i64 g, .int .i64 t, .int .i64 s] 28)).alloc (by simp) (.cells #[.int .u8 (zf : Int), .int .u8 (zt : Int), .int .u8 (za : Int), .int .u8 (zc : Int), .int .u8 (zr : Int), .int .u8 (zg : Int), .int .u8 (zu : Int), .bool zl] 23))
  have HP := Lib.hid (fun h => pawake_ok ((w.alloc (.cells #[.int .i64 f, .int .i64 d, .int .i64 a, .int .i64 c, .int .i64 u, .int .i64 g, .int .i64 t, .int .i64 s] 28)).alloc (.cells #[.int .u8 (zf : Int), .int .u8 (zt : Int), .int .u8 (za : Int), .int .u8 (zc : Int), .int .u8 (zr : Int), .int .u8 (zg : Int), .int .u8 (zu : Int), .bool zl] 23)) h)
  have HP := Lib.hid (HP.out (hh.below HB0.out))
  clear hm hq hr hz hh
  go_enter Tryd.func4, Tryd.ntmps4
  go_wp2_with fail
  refine HP.out.mono ?_
  rintro _ w1 ⟨rfl, hb1⟩
  have hz1 : w.heap.size + 2 ≤ w1.heap.size := by have := hb1.size; simp at this; omega
  have HR1 := Lib.hid (H1.out.below hb1 (by simp; omega))
  have HB1 := Lib.hid (HB0.out.trans (hb1.mono (by simp; omega)))
  have x0 : w1.cell? ⟨w.heap.size + 1, 0, none⟩ = some (.int .u8 (zf : Int)) := by rw [hb1.cell (by simp)]; simp
  have x1 : w1.cell? ⟨w.heap.size + 1, 1, none⟩ = some (.int .u8 (zt : Int)) := by rw [hb1.cell (by simp)]; simp
  have x2 : w1.cell? ⟨w.heap.size + 1, 2, none⟩ = some (.int .u8 (za : Int)) := by rw [hb1.cell (by simp)]; simp
  have x3 : w1.cell? ⟨w.heap.size + 1, 3, none⟩ = some (.int .u8 (zc : Int)) := by rw [hb1.cell (by simp)]; simp
  have x4 : w1.cell? ⟨w.heap.size + 1, 4, none⟩ = some (.int .u8 (zr : Int)) := by rw [hb1.cell (by simp)]; simp
  have x5 : w1.cell? ⟨w.heap.size + 1, 5, none⟩ = some (.int .u8 (zg : Int)) := by rw [hb1.cell (by simp)]; simp
  have x6 : w1.cell? ⟨w.heap.size + 1, 6, none⟩ = some (.int .u8 (zu : Int)) := by rw [hb1.cell (by simp)]; simp
  have x7 : w1.cell? ⟨w.heap.size + 1, 7, none⟩ = some (.bool zl) := by rw [hb1.cell (by simp)]; simp
  clear hb1 H1 HB0 HP
  go_wp2_with fail
  refine (HA.out _).mono ?_
  rintro _ w2 ⟨rfl, hb2⟩
  have hz2 := hb2.size
  have HR2 := Lib.hid ((HR1.out.below hb2 (by omega)).alloc (.cells #[.int .i64 qf, .int .i64 qd, .int .i64 qa, .int .i64 qc, .int .i64 qr, .int .i64 qg, .int .i64 qt, .int .i64 qs] 28) (by omega))
  have HX2 := Lib.hid (Py8.new w2 28 qf qd qa qc qr qg qt qs)
  have HB2 := Lib.hid ((HB1.out.trans (hb2.mono HB1.out.size)).alloc (by omega) (.cells #[.int .i64 qf, .int .i64 qd, .int .i64 qa, .int .i64 qc, .int .i64 qr, .int .i64 qg, .int .i64 qt, .int .i64 qs] 28))
  clear x0 x1 x2 x3 x4 x5 x6 x7 hb2 HR1 HB1
  obtain ⟨d0, d1, d2, d3, d4, d5, d6, d7⟩ := HR2.out.after (by simp; omega)
  obtain ⟨e0, e1, e2, e3, e4, e5, e6, e7⟩ := HX2.out.after (by simp)
  go_wp2
  refine wp_region_after (by kernel_rfl) (by kernel_rfl) ?_
  repeat (go_big_quiet_step (first
    | (go_at_call_of 14 (Value.agg #[.int .i64 f, .int .i64 d, .int .i64 a, .int .i64 c, .int .i64 u, .int .i64 g, .int .i64 t, .int .i64 s]); exact after_call _ (HM.out _))
    | (go_at_call_of 14 (Value.agg #[.int .i64 qf, .int .i64 qd, .int .i64 qa, .int .i64 qc, .int .i64 qr, .int .i64 qg, .int .i64 qt, .int .i64 qs]); exact after_call _ (HN.out _))
    | (go_at_call 15; exact after_call _ (HL.out _))))
  refine wpQuiet_nil ?_
  intro _ hw'
  obtain ⟨p, rfl⟩ := hw'
  have HX3 := Lib.hid (HX2.out.below p.below (by simp))
  have HB3 := Lib.hid (HB2.out.trans (p.below.mono HB2.out.size))
  have hz3 : w2.heap.size < p.world.heap.size := by have := p.below.size; simp at this; omega
  generalize p.world = w3 at HX3 HB3 hz3 ⊢
  clear d0 d1 d2 d3 d4 d5 d6 d7 e0 e1 e2 e3 e4 e5 e6 e7 HX2 HR2 HB2
  obtain ⟨k0, k1, k2, k3, k4, k5, k6, k7⟩ := HX3.out.cells
  obtain ⟨e0, e1, e2, e3, e4, e5, e6, e7⟩ := HX3.out.after hz3
  by_cases hs : qs = 0
  case' pos =>
    have q0 := eqT hs
    rw [if_pos hs] at HF
    have ll := beq_self_eq_true (wrap64 (qa - qc))
  case' neg =>
    have q0 := eqF hs
    rw [if_neg hs] at HF
  all_goals
    have vv := beq_self_eq_true (wrap64 (wrap64 (qc - qr) - qg))
    clear hs
    go_wp2
    refine wp_region_after (by kernel_rfl) (by kernel_rfl) ?_
    repeat (go_big_quiet_step (first
      | (go_at_call 16; exact after_call _ (HF.out _))
      | (go_at_call 17; exact after_call _ (HG.out _))))
    refine wpQuiet_nil ?_
    intro _ hw'
    obtain ⟨p, rfl⟩ := hw'
    have HB4 := Lib.hid (HB3.out.trans (p.below.mono HB3.out.size))
    clear e0 e1 e2 e3 e4 e5 e6 e7
    go_wp2
    go_ret
    exact ⟨rfl, HB4.out⟩
end Go.Proofs.YtenghafnpmlbnaaDoor
