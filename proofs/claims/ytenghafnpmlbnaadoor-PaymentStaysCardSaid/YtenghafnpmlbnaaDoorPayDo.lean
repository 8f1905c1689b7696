/-
  payment.Do by its contract: what an op makes of a payment, and the error by its number.
-/
import Derived.Test.YtenghafnpmlbnaaDoorPaySmall
import Derived.Test.YtenghafnpmlbnaaDoorPy8
namespace Go.Proofs.YtenghafnpmlbnaaDoor
open Go Go.RowKit
set_option linter.unusedVariables false

/-- A payment and an error by its number; nothing below is turned. -/
def PayRes (w : World) (r : Py) (n : Int) (e : Ending) (w' : World) : Prop := e = .returned (.tuple #[r.val, errV n]) ∧ Below w.heap.size w w'

/-- The two blocks that Do begins with. -/
abbrev doW (w : World) (f d a c r g t s : Int) : World := (w.alloc (.cells #[.int .i64 f, .int .i64 d, .int .i64 a, .int .i64 c, .int .i64 r, .int .i64 g, .int .i64 t, .int .i64 s] 28)).alloc (.cells #[.int .i64 0, .int .i64 0, .int .i64 0, .int .i64 0, .int .i64 0, .int .i64 0, .int .i64 0, .int .i64 0] 28)
theorem doW_below (w : World) (f d a c r g t s : Int) : Below w.heap.size w (doW w f d a c r g t s) := ((Below.refl _ _).alloc (Nat.le_refl _) _).alloc (by simp) _
theorem doW_zero (w : World) (f d a c r g t s : Int) : Py8 (doW w f d a c r g t s) (w.heap.size + 1) 28 0 0 0 0 0 0 0 0 := heap_alloc2_new w _ _
theorem doW_pay (w : World) (f d a c r g t s : Int) : Py8 (doW w f d a c r g t s) w.heap.size 28 f d a c r g t s := (Py8.new w _ f d a c r g t s).alloc _ (by simp)
theorem doW_size (w : World) (f d a c r g t s : Int) : (doW w f d a c r g t s).heap.size = w.heap.size + 2 := by simp

set_option maxRecDepth 100000 in
theorem do_wrong (p : Py) (op n : Int) (w : World) (h : ¬ payE p op n = 0) : Calls Tryd.prog 11 #[p.val, .int .i64 op, .int .i64 n] w (PayRes w Py.zero (payE p op n)) := by
  have HR := Lib.hid (fun W => refusal_any p op n W)
  obtain ⟨x, hx⟩ : ∃ x, payE p op n = x := ⟨_, rfl⟩
  rw [hx] at HR h ⊢
  unfold ErrRes at HR
  rw [show errV x = eno x from if_neg h] at HR
  obtain ⟨f, d, a, c, r, g, t, s⟩ := p
  unfold Py.val at HR
  unfold PayRes Py.val Py.zero errV
  rw [if_neg h]
  dsimp only at HR ⊢
  clear hx h
  go_enter Tryd.func11, Tryd.ntmps11
  go_wp2_with fail
  refine (HR.out _).mono ?_
  rintro _ w1 ⟨rfl, hb1⟩
  have HZ := Lib.hid ((doW_zero w f d a c r g t s).below hb1 (by simp))
  have HB := Lib.hid ((doW_below w f d a c r g t s).trans (hb1.mono (by simp; omega)))
  clear hb1 HR
  obtain ⟨c0, c1, c2, c3, c4, c5, c6, c7⟩ := HZ.out.cells
  obtain ⟨f0, f1, f2, f3, f4, f5, f6, f7⟩ := HZ.out.loose
  go_wp2
  refine bodyPost_ret (results_pay (p := 6) (x := 7) (ty := 28) rfl _ _ (w.heap.size + 1) _ _ (0, 0) _ rfl (HZ.out.put 0 0 0 0 0 0 0 0) Tryd.underlying28 rfl (by kernel_rfl)) rfl ?_
  exact ⟨rfl, Py8.put_below HB.out (by omega) 0 0 0 0 0 0 0 0⟩
set_option maxRecDepth 100000 in
set_option maxHeartbeats 1000000 in
theorem do_void (p : Py) (n : Int) (w : World) (h : payE p 5 n = 0) : Calls Tryd.prog 11 #[p.val, .int .i64 5, .int .i64 n] w (PayRes w (payP p 5 n) 0) := by
  have HR := Lib.hid (fun W => refusal_any p 5 n W)
  unfold ErrRes at HR
  rw [h, show errV 0 = .nilIface from rfl] at HR
  obtain ⟨f, d, a, c, r, g, t, s⟩ := p
  unfold Py.val at HR
  unfold PayRes Py.val payP errV
  clear h
  rw [if_neg (by decide), if_pos rfl, if_pos rfl]
  dsimp only at HR ⊢
  go_enter Tryd.func11, Tryd.ntmps11
  go_wp2_with fail
  refine (HR.out _).mono ?_
  rintro _ w1 ⟨rfl, hb1⟩
  have HZ := Lib.hid ((doW_zero w f d a c r g t s).below hb1 (by simp))
  have HP := Lib.hid ((doW_pay w f d a c r g t s).below hb1 (by simp; omega))
  have HB := Lib.hid ((doW_below w f d a c r g t s).trans (hb1.mono (by simp; omega)))
  clear hb1 HR
  obtain ⟨c0, c1, c2, c3, c4, c5, c6, c7⟩ := HZ.out.cells
  obtain ⟨f0, f1, f2, f3, f4, f5, f6, f7⟩ := HZ.out.loose
  obtain ⟨p0, p1, p2, p3, p4, p5, p6, p7⟩ := HP.out.cells
  obtain ⟨g0, g1, g2, g3, g4, g5, g6, g7⟩ := HP.out.loose
  go_wp2
  refine bodyPost_ret (results_pay (p := 6) (x := 7) (ty := 28) rfl _ _ (w.heap.size + 1) _ _ (0, 0) _ rfl ((HZ.out.setOther (by omega) 7 1).put f d a c r g t 1) Tryd.underlying28 rfl (by kernel_rfl)) rfl ?_
  exact ⟨rfl, Py8.put_below (HB.out.setCell (p := ⟨w.heap.size, 7, none⟩) (Nat.le_refl _) _) (by omega) f d a c r g t 1⟩

set_option maxRecDepth 100000 in
set_option maxHeartbeats 1000000 in
theorem do_refund (p : Py) (n : Int) (w : World) (h : payE p 6 n = 0) : Calls Tryd.prog 11 #[p.val, .int .i64 6, .int .i64 n] w (PayRes w (payP p 6 n) 0) := by
  have HR := Lib.hid (fun W => refusal_any p 6 n W)
  unfold ErrRes at HR
  rw [h, show errV 0 = .nilIface from rfl] at HR
  obtain ⟨f, d, a, c, r, g, t, s⟩ := p
  unfold Py.val at HR
  unfold PayRes Py.val payP errV
  clear h
  rw [if_neg (by decide), if_neg (by decide), if_pos rfl, if_pos rfl]
  obtain ⟨x, hx⟩ : ∃ x, wrap64 (r + n) = x := ⟨_, rfl⟩
  rw [hx]
  dsimp only at HR ⊢
  go_enter Tryd.func11, Tryd.ntmps11
  go_wp2_with fail
  refine (HR.out _).mono ?_
  rintro _ w1 ⟨rfl, hb1⟩
  have HZ := Lib.hid ((doW_zero w f d a c r g t s).below hb1 (by simp))
  have HP := Lib.hid ((doW_pay w f d a c r g t s).below hb1 (by simp; omega))
  have HB := Lib.hid ((doW_below w f d a c r g t s).trans (hb1.mono (by simp; omega)))
  clear hb1 HR
  obtain ⟨c0, c1, c2, c3, c4, c5, c6, c7⟩ := HZ.out.cells
  obtain ⟨f0, f1, f2, f3, f4, f5, f6, f7⟩ := HZ.out.loose
  obtain ⟨p0, p1, p2, p3, p4, p5, p6, p7⟩ := HP.out.cells
  obtain ⟨g0, g1, g2, g3, g4, g5, g6, g7⟩ := HP.out.loose
  go_wp2
  refine bodyPost_ret (results_pay (p := 6) (x := 7) (ty := 28) rfl _ _ (w.heap.size + 1) _ _ (0, 0) _ rfl ((HZ.out.setOther (by omega) 4 x).put f d a c x g t s) Tryd.underlying28 rfl (by kernel_rfl)) rfl ?_
  exact ⟨rfl, Py8.put_below (HB.out.setCell (p := ⟨w.heap.size, 4, none⟩) (Nat.le_refl _) _) (by omega) f d a c x g t s⟩

set_option maxRecDepth 100000 in
set_option maxHeartbeats 1000000 in
theorem do_charge (p : Py) (n : Int) (w : World) (h : payE p 7 n = 0) : Calls Tryd.prog 11 #[p.val, .int .i64 7, .int .i64 n] w (PayRes w (payP p 7 n) 0) := by
  have HR := Lib.hid (fun W => refusal_any p 7 n W)
  unfold ErrRes at HR
  rw [h, show errV 0 = .nilIface from rfl] at HR
  obtain ⟨f, d, a, c, r, g, t, s⟩ := p
  unfold Py.val at HR
  unfold PayRes Py.val payP errV
  clear h
  rw [if_neg (by decide), if_neg (by decide), if_neg (by decide), if_pos rfl, if_pos rfl]
  obtain ⟨x, hx⟩ : ∃ x, wrap64 (g + n) = x := ⟨_, rfl⟩
  rw [hx]
  dsimp only at HR ⊢
  go_enter Tryd.func11, Tryd.ntmps11
  go_wp2_with fail
  refine (HR.out _).mono ?_
  rintro _ w1 ⟨rfl, hb1⟩
  have HZ := Lib.hid ((doW_zero w f d a c r g t s).below hb1 (by simp))
  have HP := Lib.hid ((doW_pay w f d a c r g t s).below hb1 (by simp; omega))
  have HB := Lib.hid ((doW_below w f d a c r g t s).trans (hb1.mono (by simp; omega)))
  clear hb1 HR
  obtain ⟨c0, c1, c2, c3, c4, c5, c6, c7⟩ := HZ.out.cells
  obtain ⟨f0, f1, f2, f3, f4, f5, f6, f7⟩ := HZ.out.loose
  obtain ⟨p0, p1, p2, p3, p4, p5, p6, p7⟩ := HP.out.cells
  obtain ⟨g0, g1, g2, g3, g4, g5, g6, g7⟩ := HP.out.loose
  go_wp2
  refine bodyPost_ret (results_pay (p := 6) (x := 7) (ty := 28) rfl _ _ (w.heap.size + 1) _ _ (0, 0) _ rfl ((HZ.out.setOther (by omega) 5 x).put f d a c r x t s) Tryd.underlying28 rfl (by kernel_rfl)) rfl ?_
  exact ⟨rfl, Py8.put_below (HB.out.setCell (p := ⟨w.heap.size, 5, none⟩) (Nat.le_refl _) _) (by omega) f d a c r x t s⟩

set_option maxRecDepth 100000 in
set_option maxHeartbeats 1000000 in
theorem do_capture (p : Py) (n : Int) (w : World) (h : payE p 4 n = 0) : Calls Tryd.prog 11 #[p.val, .int .i64 4, .int .i64 n] w (PayRes w (payP p 4 n) 0) := by
  have HR := Lib.hid (fun W => refusal_any p 4 n W)
  unfold ErrRes at HR
  rw [h, show errV 0 = .nilIface from rfl] at HR
  obtain ⟨f, d, a, c, r, g, t, s⟩ := p
  unfold Py.val at HR
  unfold PayRes Py.val payP errV
  clear h
  rw [if_pos rfl, if_pos rfl]
  obtain ⟨x, hx⟩ : ∃ x, wrap64 (c + n) = x := ⟨_, rfl⟩
  rw [hx]
  dsimp only at HR ⊢
  obtain ⟨z, hz⟩ : ∃ z, (if x = a then 1 else s) = z := ⟨_, rfl⟩
  rw [hz]
  go_enter Tryd.func11, Tryd.ntmps11
  go_wp2_with fail
  refine (HR.out _).mono ?_
  rintro _ w1 ⟨rfl, hb1⟩
  have HZ := Lib.hid ((doW_zero w f d a c r g t s).below hb1 (by simp))
  have HP := Lib.hid ((doW_pay w f d a c r g t s).below hb1 (by simp; omega))
  have HB := Lib.hid ((doW_below w f d a c r g t s).trans (hb1.mono (by simp; omega)))
  clear hb1 HR
  obtain ⟨c0, c1, c2, c3, c4, c5, c6, c7⟩ := HZ.out.cells
  obtain ⟨f0, f1, f2, f3, f4, f5, f6, f7⟩ := HZ.out.loose
  obtain ⟨p0, p1, p2, p3, p4, p5, p6, p7⟩ := HP.out.cells
  obtain ⟨g0, g1, g2, g3, g4, g5, g6, g7⟩ := HP.out.loose
  by_cases q : x = a
  · rw [if_pos q] at hz
    subst hz
    have q1 := eqT q
    clear q
    go_wp2
    refine bodyPost_ret (results_pay (p := 6) (x := 7) (ty := 28) rfl _ _ (w.heap.size + 1) _ _ (0, 0) _ rfl (((HZ.out.setOther (by omega) 3 x).setOther (by omega) 7 1).put f d a x r g t 1) Tryd.underlying28 rfl (by kernel_rfl)) rfl ?_
    exact ⟨rfl, Py8.put_below ((HB.out.setCell (p := ⟨w.heap.size, 3, none⟩) (Nat.le_refl _) _).setCell (p := ⟨w.heap.size, 7, none⟩) (Nat.le_refl _) _) (by omega) f d a x r g t 1⟩
  · rw [if_neg q] at hz
    subst hz
    have q1 := eqF q
    clear q
    go_wp2
    refine bodyPost_ret (results_pay (p := 6) (x := 7) (ty := 28) rfl _ _ (w.heap.size + 1) _ _ (0, 0) _ rfl ((HZ.out.setOther (by omega) 3 x).put f d a x r g t s) Tryd.underlying28 rfl (by kernel_rfl)) rfl ?_
    exact ⟨rfl, Py8.put_below (HB.out.setCell (p := ⟨w.heap.size, 3, none⟩) (Nat.le_refl _) _) (by omega) f d a x r g t s⟩

/-- What Do answers. -/
theorem do_any (p : Py) (op n : Int) (w : World) : Calls Tryd.prog 11 #[p.val, .int .i64 op, .int .i64 n] w (PayRes w (payR p op n) (payE p op n)) := by
  by_cases h : payE p op n = 0
  · have h' := h
    unfold payR
    rw [if_pos h, h]
    by_cases h4 : op = 4
    · subst h4; exact do_capture p n w h'
    · by_cases h5 : op = 5
      · subst h5; exact do_void p n w h'
      · by_cases h6 : op = 6
        · subst h6; exact do_refund p n w h'
        · by_cases h7 : op = 7
          · subst h7; exact do_charge p n w h'
          · unfold payE at h'
            rw [if_neg h4, if_neg h5, if_neg h6, if_neg h7] at h'
            omega
  · unfold payR
    rw [if_neg h]
    exact do_wrong p op n w h
end Go.Proofs.YtenghafnpmlbnaaDoor
