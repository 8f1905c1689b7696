/-
  The statement RequestLong by its walk.
-/
import Derived.Test.YtenepkhglgfpaaaReqAwake
import Derived.Test.YtenepkhglgfpaaaReqCells
namespace Go.Proofs.Ytenepkhglgfpaaa
open Go Go.RowKit
set_option linter.unusedVariables false

theorem long_iff {r : Rq} (h : r.may) : decide (r.op = 2 ∧ 0 < r.legs) = decide (0 < r.legs) := by
  have h2 := h.2.1
  unfold legsOk at h2
  by_cases ho : r.op = 2
  · simp [ho]
  · rw [if_neg ho] at h2
    simp [ho, h2]

set_option maxRecDepth 100000 in
set_option maxHeartbeats 1000000 in
theorem requestLong_walk (w : World) (z : Ak) (hz : z.fits) (legs : Int) (wl : (Lit.int .i64 legs).wf = true) (op : Int) (wo : (Lit.int .i8 op).wf = true) :
    Calls Try.prog 8 #[z.val, .int .i64 legs, .int .i8 op] w fun e w' => e = .returned (.bool true) ∧ Below w.heap.size w w' := by
  have hob : -128 ≤ op ∧ op ≤ 127 := by
    simp only [Lit.wf, Bool.and_eq_true, decide_eq_true_eq] at wo
    have e1 : IntKind.i8.min = -128 := rfl
    have e2 : IntKind.i8.max = 127 := rfl
    omega
  obtain ⟨ho1, ho2⟩ := hob
  have HA := Lib.hid (fun W => ask_any z hz W)
  have HG := Lib.hid (fun W => long_any z.req W)
  rw [long_iff (z.req_may hz)] at HG
  obtain ⟨⟨qk, qo, qa, qb, qm, ql, qt⟩, hq⟩ : ∃ q, q = z.req := ⟨_, rfl⟩
  rw [← hq] at HA HG
  obtain ⟨r, hr⟩ : ∃ r : Rq, r = ⟨qk, op, qa, qb, qm, legs, qt⟩ := ⟨_, rfl⟩
  have HM := Lib.hid (fun W => rmay_any r W)
  have HG2 := Lib.hid (fun W => long_any r W)
  have HIF := Lib.hid (@long_iff r)
  obtain ⟨m, hm⟩ : ∃ m, m = decide r.may := ⟨_, rfl⟩
  rw [← hm] at HM
  have HMM := Lib.hid hm
  obtain ⟨zk, zo, za, zb, zm, zl, zt⟩ := z
  rw [hr] at HM HG2
  unfold AskRes Rq.val at HA
  unfold Rq.val at HM HG HG2
  unfold Ak.val at HA
  unfold Ak.val
  dsimp only at HM HG HG2 HA ⊢
  have H2 := Lib.hid (Ak7.new w ⟨zk, zo, za, zb, zm, zl, zt⟩)
  have HB0 := Lib.hid ((Below.refl w.heap.size w).alloc (Nat.le_refl _) (.cells #[.int .u8 (zk : Int), .int .u8 (zo : Int), .int .u8 (za : Int), .int .u8 (zb : Int), .int .u16 (zm : Int), .int .u8 (zl : Int), .int .u8 (zt : Int)] 27))
  have HR := Lib.hid hr
  clear hm hq hz hr wl wo
  go_enter Try.func8, Try.ntmps8
  go_wp2_with fail
  refine (awake_ok _).mono ?_
  rintro _ w1 ⟨rfl, hb1⟩
  obtain ⟨e0, e1, e2, e3, e4, e5, e6⟩ := (H2.out.below hb1 (by simp)).cells
  dsimp only at e0 e1 e2 e3 e4 e5 e6
  have HB1 := Lib.hid (HB0.out.trans (hb1.mono (by simp)))
  clear hb1 H2 HB0
  go_wp2_with fail
  refine (HA.out _).mono ?_
  rintro _ w2 ⟨rfl, hb2⟩
  have HB2 := Lib.hid (HB1.out.trans (hb2.mono HB1.out.size))
  have hz2 := HB2.out.size
  clear hb2 HB1 HA e0 e1 e2 e3 e4 e5 e6
  go_wp2
  obtain ⟨W3, hW3⟩ : ∃ W3, W3 = w2.alloc (.cells #[.int .i64 qk, .int .i64 qo, .int .i64 qa, .int .i64 qb, .int .i64 qm, .int .i64 ql, .int .i64 qt] 24) := ⟨_, rfl⟩
  have hR3 : Rq7 W3 w2.heap.size 24 qk qo qa qb qm ql qt := by rw [hW3]; exact Rq7.new w2 _ _ _ _ _ _ _ _
  have hB3 : Below w.heap.size w W3 := by rw [hW3]; exact HB2.out.alloc hz2 _
  have hs3 : w2.heap.size < W3.heap.size := by rw [hW3]; simp
  rw [← hW3]
  obtain ⟨g, hg⟩ : ∃ g, g = w2.heap.size := ⟨_, rfl⟩
  rw [← hg] at hR3 hs3 hz2 ⊢
  have HR3 := Lib.hid hR3
  have HB3 := Lib.hid hB3
  have d0 := hR3.a0 hs3
  have d1 := hR3.a1 hs3
  have d2 := hR3.a2 hs3
  have d3 := hR3.a3 hs3
  have d4 := hR3.a4 hs3
  have d5 := hR3.a5 hs3
  have d6 := hR3.a6 hs3
  have mm2 : (decide (0 < ql) != decide (0 < ql)) = false := bne_self_eq_false _
  clear hR3 hB3 hW3 HB2 hg
  refine wp_region_after (by kernel_rfl) (by kernel_rfl) ?_
  repeat (go_big_quiet_step (first
    | (go_at_call 13; exact after_call _ (HG.out _))))
  refine wpQuiet_nil ?_
  intro _ hw'
  obtain ⟨p, rfl⟩ := hw'
  have HR4 := Lib.hid (HR3.out.below p.below hs3)
  have HB4 := Lib.hid (HB3.out.trans (p.below.mono HB3.out.size))
  have hs4 : g < p.world.heap.size := by have := p.below.size; omega
  clear d0 d1 d2 d3 d4 d5 d6 HG
  generalize p.world = w4 at *
  obtain ⟨c0, c1, c2, c3, c4, c5, c6⟩ := HR4.out.cells
  obtain ⟨f0, f1, f2, f3, f4, f5, f6⟩ := HR4.out.loose
  go_wp2_with fail
  have HB5 := Lib.hid ((HB4.out.setCell (p := ⟨g, 1, none⟩) hz2 (.int .i64 op)).setCell (p := ⟨g, 5, none⟩) hz2 (.int .i64 legs))
  have HR5 := Lib.hid (HR4.out.set15 op legs)
  refine (HM.out _).mono ?_
  rintro _ w5 ⟨rfl, hb5⟩
  have HB6 := Lib.hid (HB5.out.trans (hb5.mono HB5.out.size))
  have HR6 := Lib.hid (HR5.out.below hb5 (by simp; omega))
  clear hb5 HB5 HR5 HB4 HR4 c0 c1 c2 c3 c4 c5 c6 f0 f1 f2 f3 f4 f5 f6
  cases m
  · go_wp2
    go_ret
    exact ⟨rfl, HB6.out⟩
  · obtain ⟨c0, c1, c2, c3, c4, c5, c6⟩ := HR6.out.cells
    have hif := HIF.out (of_decide_eq_true HMM.out.symm)
    rw [HR.out] at hif
    dsimp only at hif
    rw [hif] at HG2
    have mm3 := beq_self_eq_true (decide (0 < legs))
    clear hif HIF HMM HM HR mm2
    go_wp2_with fail
    refine (HG2.out _).mono ?_
    rintro _ w6 ⟨rfl, hb6⟩
    have HB7 := Lib.hid (HB6.out.trans (hb6.mono HB6.out.size))
    clear hb6
    go_wp2
    go_ret
    exact ⟨rfl, HB7.out⟩
end Go.Proofs.Ytenepkhglgfpaaa
