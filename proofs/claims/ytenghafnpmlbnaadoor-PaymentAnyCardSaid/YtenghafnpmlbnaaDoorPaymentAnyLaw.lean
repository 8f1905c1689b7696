/-
  The statement PaymentAny by its walk.
-/
import Derived.Test.YtenghafnpmlbnaaDoorPayAwake
import Derived.Test.YtenghafnpmlbnaaDoorPaid
import Derived.Test.YtenghafnpmlbnaaDoorPayCells
namespace Go.Proofs.YtenghafnpmlbnaaDoor
open Go Go.RowKit
set_option linter.unusedVariables false

theorem payE_no {p : Py} {op n : Int} (h : op < 4 ∨ 7 < op) : payE p op n = 13 := by
  unfold payE
  rw [if_neg (by omega), if_neg (by omega), if_neg (by omega), if_neg (by omega)]
theorem excE_in (n m : Int) : excE n m = 0 ∨ excE n m = 1 ∨ excE n m = 6 := by
  unfold excE
  split
  · simp
  · split <;> simp
theorem payE_in {p : Py} {op n : Int} (h : ¬ op < 4) (h' : ¬ 7 < op) : payE p op n = 0 ∨ payE p op n = 1 ∨ payE p op n = 6 := by
  unfold payE
  split
  · exact excE_in _ _
  · split
    · split <;> simp
    · split
      · exact excE_in _ _
      · split
        · exact excE_in _ _
        · omega
theorem payR_no {p : Py} {op n : Int} (h : ¬ payE p op n = 0) : payR p op n = Py.zero := by unfold payR; rw [if_neg h]

set_option maxRecDepth 100000 in
set_option maxHeartbeats 1000000 in
theorem paymentAny_low (w : World) (p : Py) (op n : Int) (hop : -128 ≤ op ∧ op ≤ 127) (hh : HasErr w) (h : op < 4) :
    Calls Tryd.prog 7 #[p.val, .int .i8 op, .int .i64 n] w fun e w' => e = .returned (.bool true) ∧ Below w.heap.size w w' := by
  have HD := Lib.hid (fun W => do_any p op n W)
  have hE : payE p op n = 13 := payE_no (.inl h)
  rw [hE, payR_no (by rw [hE]; decide)] at HD
  unfold PayRes Py.zero errV at HD
  rw [if_neg (by decide)] at HD
  clear hE
  obtain ⟨f, d, a, c, r, g, t, s⟩ := p
  (try unfold Py.val at HD)
  unfold Py.val
  dsimp only at HD ⊢
  have H1 := Lib.hid (Py8.new w 28 f d a c r g t s)
  have HB0 := Lib.hid ((Below.refl w.heap.size w).alloc (Nat.le_refl _) (.cells #[.int .i64 f, .int .i64 d, .int .i64 a, .int .i64 c, .int .i64 r, .int .i64 g, .int .i64 t, .int .i64 s] 28))
  have HP := Lib.hid (pawake_ok (w.alloc (.cells #[.int .i64 f, .int .i64 d, .int .i64 a, .int .i64 c, .int .i64 r, .int .i64 g, .int .i64 t, .int .i64 s] 28)) (hh.below HB0.out))
  have HH := Lib.hid hh
  clear hh
  go_enter Tryd.func7, Tryd.ntmps7
  go_wp2_with fail
  refine HP.out.mono ?_
  rintro _ w1 ⟨rfl, hb1⟩
  obtain ⟨x0, x1, x2, x3, x4, x5, x6, x7⟩ := (H1.out.below hb1 (by simp)).cells
  have HB1 := Lib.hid (HB0.out.trans (hb1.mono (by simp)))
  clear hb1 H1 HB0 HP
  go_wp2_with fail
  refine (HD.out _).mono ?_
  rintro _ w2 ⟨rfl, hb2⟩
  have HB2 := Lib.hid ((HB1.out.trans (hb2.mono HB1.out.size)).alloc (Nat.le_trans HB1.out.size hb2.size) (.cells #[.int .i64 0, .int .i64 0, .int .i64 0, .int .i64 0, .int .i64 0, .int .i64 0, .int .i64 0, .int .i64 0] 28))
  have HN := Lib.hid (fun W h => number_of 13 W h)
  have HB := Lib.hid (HH.out.below HB2.out)
  clear x0 x1 x2 x3 x4 x5 x6 x7 hb2 HB1 HD HH
  go_wp2_with (first | (go_at_call 13; refine (HN.out _ HB.out).mono ?_; rintro e w4 ⟨rfl, hb4⟩))
  go_ret
  exact ⟨rfl, HB2.out.trans (hb4.mono HB2.out.size)⟩

set_option maxRecDepth 100000 in
set_option maxHeartbeats 1000000 in
theorem paymentAny_high (w : World) (p : Py) (op n : Int) (hop : -128 ≤ op ∧ op ≤ 127) (hh : HasErr w) (h : ¬ op < 4) (h' : 7 < op) :
    Calls Tryd.prog 7 #[p.val, .int .i8 op, .int .i64 n] w fun e w' => e = .returned (.bool true) ∧ Below w.heap.size w w' := by
  have HD := Lib.hid (fun W => do_any p op n W)
  have hE : payE p op n = 13 := payE_no (.inr h')
  rw [hE, payR_no (by rw [hE]; decide)] at HD
  unfold PayRes Py.zero errV at HD
  rw [if_neg (by decide)] at HD
  clear hE
  obtain ⟨f, d, a, c, r, g, t, s⟩ := p
  (try unfold Py.val at HD)
  unfold Py.val
  dsimp only at HD ⊢
  have H1 := Lib.hid (Py8.new w 28 f d a c r g t s)
  have HB0 := Lib.hid ((Below.refl w.heap.size w).alloc (Nat.le_refl _) (.cells #[.int .i64 f, .int .i64 d, .int .i64 a, .int .i64 c, .int .i64 r, .int .i64 g, .int .i64 t, .int .i64 s] 28))
  have HP := Lib.hid (pawake_ok (w.alloc (.cells #[.int .i64 f, .int .i64 d, .int .i64 a, .int .i64 c, .int .i64 r, .int .i64 g, .int .i64 t, .int .i64 s] 28)) (hh.below HB0.out))
  have HH := Lib.hid hh
  clear hh
  go_enter Tryd.func7, Tryd.ntmps7
  go_wp2_with fail
  refine HP.out.mono ?_
  rintro _ w1 ⟨rfl, hb1⟩
  obtain ⟨x0, x1, x2, x3, x4, x5, x6, x7⟩ := (H1.out.below hb1 (by simp)).cells
  have HB1 := Lib.hid (HB0.out.trans (hb1.mono (by simp)))
  clear hb1 H1 HB0 HP
  go_wp2_with fail
  refine (HD.out _).mono ?_
  rintro _ w2 ⟨rfl, hb2⟩
  have HB2 := Lib.hid ((HB1.out.trans (hb2.mono HB1.out.size)).alloc (Nat.le_trans HB1.out.size hb2.size) (.cells #[.int .i64 0, .int .i64 0, .int .i64 0, .int .i64 0, .int .i64 0, .int .i64 0, .int .i64 0, .int .i64 0] 28))
  have HN := Lib.hid (fun W h => number_of 13 W h)
  have HB := Lib.hid (HH.out.below HB2.out)
  clear x0 x1 x2 x3 x4 x5 x6 x7 hb2 HB1 HD HH
  go_wp2_with (first | (go_at_call 13; refine (HN.out _ HB.out).mono ?_; rintro e w4 ⟨rfl, hb4⟩))
  go_ret
  exact ⟨rfl, HB2.out.trans (hb4.mono HB2.out.size)⟩

set_option maxRecDepth 100000 in
set_option maxHeartbeats 1000000 in
theorem paymentAny_bad (w : World) (p : Py) (op n : Int) (hop : -128 ≤ op ∧ op ≤ 127) (hh : HasErr w) (h : ¬ op < 4) (h' : ¬ 7 < op) (hE : payE p op n = 1) :
    Calls Tryd.prog 7 #[p.val, .int .i8 op, .int .i64 n] w fun e w' => e = .returned (.bool true) ∧ Below w.heap.size w w' := by
  have HD := Lib.hid (fun W => do_any p op n W)
  rw [hE, payR_no (by rw [hE]; decide)] at HD
  unfold PayRes Py.zero errV at HD
  rw [if_neg (by decide)] at HD
  clear hE
  obtain ⟨f, d, a, c, r, g, t, s⟩ := p
  (try unfold Py.val at HD)
  unfold Py.val
  dsimp only at HD ⊢
  have H1 := Lib.hid (Py8.new w 28 f d a c r g t s)
  have HB0 := Lib.hid ((Below.refl w.heap.size w).alloc (Nat.le_refl _) (.cells #[.int .i64 f, .int .i64 d, .int .i64 a, .int .i64 c, .int .i64 r, .int .i64 g, .int .i64 t, .int .i64 s] 28))
  have HP := Lib.hid (pawake_ok (w.alloc (.cells #[.int .i64 f, .int .i64 d, .int .i64 a, .int .i64 c, .int .i64 r, .int .i64 g, .int .i64 t, .int .i64 s] 28)) (hh.below HB0.out))
  have HH := Lib.hid hh
  clear hh
  go_enter Tryd.func7, Tryd.ntmps7
  go_wp2_with fail
  refine HP.out.mono ?_
  rintro _ w1 ⟨rfl, hb1⟩
  obtain ⟨x0, x1, x2, x3, x4, x5, x6, x7⟩ := (H1.out.below hb1 (by simp)).cells
  have HB1 := Lib.hid (HB0.out.trans (hb1.mono (by simp)))
  clear hb1 H1 HB0 HP
  go_wp2_with fail
  refine (HD.out _).mono ?_
  rintro _ w2 ⟨rfl, hb2⟩
  have HB2 := Lib.hid ((HB1.out.trans (hb2.mono HB1.out.size)).alloc (Nat.le_trans HB1.out.size hb2.size) (.cells #[.int .i64 0, .int .i64 0, .int .i64 0, .int .i64 0, .int .i64 0, .int .i64 0, .int .i64 0, .int .i64 0] 28))
  have HN := Lib.hid (fun W h => number_of 1 W h)
  have HB := Lib.hid (HH.out.below HB2.out)
  clear x0 x1 x2 x3 x4 x5 x6 x7 hb2 HB1 HD HH
  go_wp2_with (first | (go_at_call 13; refine (HN.out _ HB.out).mono ?_; rintro e w4 ⟨rfl, hb4⟩))
  go_ret
  exact ⟨rfl, HB2.out.trans (hb4.mono HB2.out.size)⟩

set_option maxRecDepth 100000 in
set_option maxHeartbeats 1000000 in
theorem paymentAny_state (w : World) (p : Py) (op n : Int) (hop : -128 ≤ op ∧ op ≤ 127) (hh : HasErr w) (h : ¬ op < 4) (h' : ¬ 7 < op) (hE : payE p op n = 6) :
    Calls Tryd.prog 7 #[p.val, .int .i8 op, .int .i64 n] w fun e w' => e = .returned (.bool true) ∧ Below w.heap.size w w' := by
  have HD := Lib.hid (fun W => do_any p op n W)
  rw [hE, payR_no (by rw [hE]; decide)] at HD
  unfold PayRes Py.zero errV at HD
  rw [if_neg (by decide)] at HD
  clear hE
  obtain ⟨f, d, a, c, r, g, t, s⟩ := p
  (try unfold Py.val at HD)
  unfold Py.val
  dsimp only at HD ⊢
  have H1 := Lib.hid (Py8.new w 28 f d a c r g t s)
  have HB0 := Lib.hid ((Below.refl w.heap.size w).alloc (Nat.le_refl _) (.cells #[.int .i64 f, .int .i64 d, .int .i64 a, .int .i64 c, .int .i64 r, .int .i64 g, .int .i64 t, .int .i64 s] 28))
  have HP := Lib.hid (pawake_ok (w.alloc (.cells #[.int .i64 f, .int .i64 d, .int .i64 a, .int .i64 c, .int .i64 r, .int .i64 g, .int .i64 t, .int .i64 s] 28)) (hh.below HB0.out))
  have HH := Lib.hid hh
  clear hh
  go_enter Tryd.func7, Tryd.ntmps7
  go_wp2_with fail
  refine HP.out.mono ?_
  rintro _ w1 ⟨rfl, hb1⟩
  obtain ⟨x0, x1, x2, x3, x4, x5, x6, x7⟩ := (H1.out.below hb1 (by simp)).cells
  have HB1 := Lib.hid (HB0.out.trans (hb1.mono (by simp)))
  clear hb1 H1 HB0 HP
  go_wp2_with fail
  refine (HD.out _).mono ?_
  rintro _ w2 ⟨rfl, hb2⟩
  have HB2 := Lib.hid ((HB1.out.trans (hb2.mono HB1.out.size)).alloc (Nat.le_trans HB1.out.size hb2.size) (.cells #[.int .i64 0, .int .i64 0, .int .i64 0, .int .i64 0, .int .i64 0, .int .i64 0, .int .i64 0, .int .i64 0] 28))
  have HN := Lib.hid (fun W h => number_of 6 W h)
  have HB := Lib.hid (HH.out.below HB2.out)
  clear x0 x1 x2 x3 x4 x5 x6 x7 hb2 HB1 HD HH
  go_wp2_with fail
  refine (HN.out _ HB.out).mono ?_
  rintro _ w4 ⟨rfl, hb4⟩
  have HB4 := Lib.hid (HB2.out.trans (hb4.mono HB2.out.size))
  have HBB := Lib.hid (HB.out.below hb4)
  clear hb4
  go_wp2_with fail
  refine (HN.out _ HBB.out).mono ?_
  rintro _ w5 ⟨rfl, hb5⟩
  go_wp2
  go_ret
  exact ⟨rfl, HB4.out.trans (hb5.mono HB4.out.size)⟩

set_option maxRecDepth 100000 in
set_option maxHeartbeats 1000000 in
theorem paymentAny_good (w : World) (p : Py) (op n : Int) (hop : -128 ≤ op ∧ op ≤ 127) (hh : HasErr w) (h : ¬ op < 4) (h' : ¬ 7 < op) (hE : payE p op n = 0) :
    Calls Tryd.prog 7 #[p.val, .int .i8 op, .int .i64 n] w fun e w' => e = .returned (.bool true) ∧ Below w.heap.size w w' := by
  have HD := Lib.hid (fun W => do_any p op n W)
  obtain ⟨⟨qf, qd, qa, qc, qr, qg, qt, qs⟩, hq⟩ : ∃ q, q = payR p op n := ⟨_, rfl⟩
  rw [hE, ← hq] at HD
  unfold PayRes Py.val errV at HD
  rw [if_pos rfl] at HD
  dsimp only at HD
  clear hE hq
  obtain ⟨f, d, a, c, r, g, t, s⟩ := p
  (try unfold Py.val at HD)
  unfold Py.val
  dsimp only at HD ⊢
  have H1 := Lib.hid (Py8.new w 28 f d a c r g t s)
  have HB0 := Lib.hid ((Below.refl w.heap.size w).alloc (Nat.le_refl _) (.cells #[.int .i64 f, .int .i64 d, .int .i64 a, .int .i64 c, .int .i64 r, .int .i64 g, .int .i64 t, .int .i64 s] 28))
  have HP := Lib.hid (pawake_ok (w.alloc (.cells #[.int .i64 f, .int .i64 d, .int .i64 a, .int .i64 c, .int .i64 r, .int .i64 g, .int .i64 t, .int .i64 s] 28)) (hh.below HB0.out))
  have HH := Lib.hid hh
  clear hh
  go_enter Tryd.func7, Tryd.ntmps7
  go_wp2_with fail
  refine HP.out.mono ?_
  rintro _ w1 ⟨rfl, hb1⟩
  obtain ⟨x0, x1, x2, x3, x4, x5, x6, x7⟩ := (H1.out.below hb1 (by simp)).cells
  have HB1 := Lib.hid (HB0.out.trans (hb1.mono (by simp)))
  clear hb1 H1 HB0 HP
  go_wp2_with fail
  refine (HD.out _).mono ?_
  rintro _ w2 ⟨rfl, hb2⟩
  have HB2 := Lib.hid ((HB1.out.trans (hb2.mono HB1.out.size)).alloc (Nat.le_trans HB1.out.size hb2.size) (.cells #[.int .i64 qf, .int .i64 qd, .int .i64 qa, .int .i64 qc, .int .i64 qr, .int .i64 qg, .int .i64 qt, .int .i64 qs] 28))
  clear x0 x1 x2 x3 x4 x5 x6 x7 hb2 HB1 HD HH
  go_wp2
  go_ret
  exact ⟨rfl, HB2.out⟩

theorem paymentAny_walk (w : World) (p : Py) (hp : p.fits) (op : Int) (ho : (Lit.int .i8 op).wf = true) (n : Int) (hn : (Lit.int .i64 n).wf = true) (hh : HasErr w) :
    Calls Tryd.prog 7 #[p.val, .int .i8 op, .int .i64 n] w fun e w' => e = .returned (.bool true) ∧ Below w.heap.size w w' := by
  have hop : -128 ≤ op ∧ op ≤ 127 := by
    simp only [Lit.wf, Bool.and_eq_true, decide_eq_true_eq] at ho
    have e1 : IntKind.i8.min = -128 := rfl
    have e2 : IntKind.i8.max = 127 := rfl
    omega
  by_cases h : op < 4
  · exact paymentAny_low w p op n hop hh h
  · by_cases h' : 7 < op
    · exact paymentAny_high w p op n hop hh h h'
    · rcases payE_in (p := p) (op := op) (n := n) h h' with hE | hE | hE
      · exact paymentAny_good w p op n hop hh h h' hE
      · exact paymentAny_bad w p op n hop hh h h' hE
      · exact paymentAny_state w p op n hop hh h h' hE
end Go.Proofs.YtenghafnpmlbnaaDoor
