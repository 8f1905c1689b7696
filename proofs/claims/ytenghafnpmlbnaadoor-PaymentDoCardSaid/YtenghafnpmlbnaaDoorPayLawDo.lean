/-
  The law's do by its contract: the same as payment.Do, with the error's number.
-/
import Derived.Test.YtenghafnpmlbnaaDoorPayDo
import Derived.BigQuiet
import Derived.Deep.QuietTactic
namespace Go.Proofs.YtenghafnpmlbnaaDoor
open Go Go.RowKit
set_option linter.unusedVariables false

/-- A payment and a number; nothing below is turned. -/
def PayNum (w : World) (r : Py) (n : Int) (e : Ending) (w' : World) : Prop := e = .returned (.tuple #[r.val, .int .i64 n]) ∧ Below w.heap.size w w'

theorem lawdo_row (w : World) (f d a c r g t s : Int) (k : Nat) (y0 y1 y2 y3 y4 y5 y6 y7 : Int) (o : Obj) : (((((((((((doW w f d a c r g t s).drewN k).setCell ⟨w.heap.size + 1, 0, none⟩ (.int .i64 y0)).setCell ⟨w.heap.size + 1, 1, none⟩ (.int .i64 y1)).setCell ⟨w.heap.size + 1, 2, none⟩ (.int .i64 y2)).setCell ⟨w.heap.size + 1, 3, none⟩ (.int .i64 y3)).setCell ⟨w.heap.size + 1, 4, none⟩ (.int .i64 y4)).setCell ⟨w.heap.size + 1, 5, none⟩ (.int .i64 y5)).setCell ⟨w.heap.size + 1, 6, none⟩ (.int .i64 y6)).setCell ⟨w.heap.size + 1, 7, none⟩ (.int .i64 y7)).alloc o).heap[w.heap.size + 1]? = some (.cells #[.int .i64 y0, .int .i64 y1, .int .i64 y2, .int .i64 y3, .int .i64 y4, .int .i64 y5, .int .i64 y6, .int .i64 y7] 28 (0, 0)) :=
  (Py8.put (show Py8 ((doW w f d a c r g t s).drewN k) (w.heap.size + 1) 28 0 0 0 0 0 0 0 0 from doW_zero w f d a c r g t s) y0 y1 y2 y3 y4 y5 y6 y7).alloc o (by simp)
theorem lawdo_below (w : World) (f d a c r g t s : Int) (k : Nat) (y0 y1 y2 y3 y4 y5 y6 y7 : Int) (o : Obj) : Below w.heap.size w (((((((((((doW w f d a c r g t s).drewN k).setCell ⟨w.heap.size + 1, 0, none⟩ (.int .i64 y0)).setCell ⟨w.heap.size + 1, 1, none⟩ (.int .i64 y1)).setCell ⟨w.heap.size + 1, 2, none⟩ (.int .i64 y2)).setCell ⟨w.heap.size + 1, 3, none⟩ (.int .i64 y3)).setCell ⟨w.heap.size + 1, 4, none⟩ (.int .i64 y4)).setCell ⟨w.heap.size + 1, 5, none⟩ (.int .i64 y5)).setCell ⟨w.heap.size + 1, 6, none⟩ (.int .i64 y6)).setCell ⟨w.heap.size + 1, 7, none⟩ (.int .i64 y7)).alloc o) :=
  (Py8.put_below (below_drewN (doW_below w f d a c r g t s) k) (by omega) y0 y1 y2 y3 y4 y5 y6 y7).alloc (by simp; omega) o

set_option maxRecDepth 100000 in
set_option maxHeartbeats 2000000 in
theorem lawdo_5 (p : Py) (n : Int) (w : World) : Calls Tryd.prog 12 #[p.val, .int .i64 5, .int .i64 n] w (PayNum w (payR p 5 n) (payE p 5 n)) := by
  obtain ⟨f, d, a, c, r, g, t, s⟩ := p
  by_cases q : s = 0
  · have hE : payE ⟨f, d, a, c, r, g, t, s⟩ 5 n = 0 := by simp [payE, q]
    have hR : payR ⟨f, d, a, c, r, g, t, s⟩ 5 n = ⟨f, d, a, c, r, g, t, 1⟩ := by unfold payR; rw [if_pos hE]; simp [payP]
    rw [hE, hR]
    unfold PayNum Py.val
    dsimp only
    have q1 := eqT q
    have q2 := neF q
    clear hE hR q
    go_enter Tryd.func12, Tryd.ntmps12
    go_wp2
    go_quiet (fail)
    go_wp2
    refine bodyPost_ret (results_pay (p := 6) (x := 7) (ty := 28) rfl _ _ (w.heap.size + 1) _ _ (0, 0) _ rfl (lawdo_row w f d a c r g t s _ f d a c r g t 1 _) Tryd.underlying28 rfl (by kernel_rfl)) rfl ?_
    exact ⟨rfl, lawdo_below w f d a c r g t s _ f d a c r g t 1 _⟩
  · have hE : payE ⟨f, d, a, c, r, g, t, s⟩ 5 n = 6 := by simp [payE, q]
    have hR : payR ⟨f, d, a, c, r, g, t, s⟩ 5 n = Py.zero := by unfold payR; rw [if_neg (by rw [hE]; decide)]
    rw [hE, hR]
    unfold PayNum Py.val Py.zero
    dsimp only
    have q1 := eqF q
    have q2 := neT q
    clear hE hR q
    go_enter Tryd.func12, Tryd.ntmps12
    go_wp2
    go_quiet (fail)
    go_wp2
    refine bodyPost_ret (results_pay (p := 6) (x := 7) (ty := 28) rfl _ _ (w.heap.size + 1) _ _ (0, 0) _ rfl (lawdo_row w f d a c r g t s _ 0 0 0 0 0 0 0 0 _) Tryd.underlying28 rfl (by kernel_rfl)) rfl ?_
    exact ⟨rfl, lawdo_below w f d a c r g t s _ 0 0 0 0 0 0 0 0 _⟩

set_option maxRecDepth 100000 in
set_option maxHeartbeats 2000000 in
theorem lawdo_no (p : Py) (n : Int) (w : World) (op : Int) (h4 : ¬ op = 4) (h5 : ¬ op = 5) (h6 : ¬ op = 6) (h7 : ¬ op = 7) : Calls Tryd.prog 12 #[p.val, .int .i64 op, .int .i64 n] w (PayNum w (payR p op n) (payE p op n)) := by
  obtain ⟨f, d, a, c, r, g, t, s⟩ := p
  by_cases q : s = 0
  · have hE : payE ⟨f, d, a, c, r, g, t, s⟩ op n = 13 := by simp [payE, h4, h5, h6, h7]
    have hR : payR ⟨f, d, a, c, r, g, t, s⟩ op n = Py.zero := by unfold payR; rw [if_neg (by rw [hE]; decide)]
    rw [hE, hR]
    unfold PayNum Py.val Py.zero
    dsimp only
    have q1 := eqT q
    have r4 := eqF h4
    have r5 := eqF h5
    have r6 := eqF h6
    have r7 := eqF h7
    clear hE hR q h4 h5 h6 h7
    go_enter Tryd.func12, Tryd.ntmps12
    go_wp2
    go_quiet (fail)
    go_wp2
    refine bodyPost_ret (results_pay (p := 6) (x := 7) (ty := 28) rfl _ _ (w.heap.size + 1) _ _ (0, 0) _ rfl (lawdo_row w f d a c r g t s _ 0 0 0 0 0 0 0 0 _) Tryd.underlying28 rfl (by kernel_rfl)) rfl ?_
    exact ⟨rfl, lawdo_below w f d a c r g t s _ 0 0 0 0 0 0 0 0 _⟩
  · have hE : payE ⟨f, d, a, c, r, g, t, s⟩ op n = 13 := by simp [payE, h4, h5, h6, h7]
    have hR : payR ⟨f, d, a, c, r, g, t, s⟩ op n = Py.zero := by unfold payR; rw [if_neg (by rw [hE]; decide)]
    rw [hE, hR]
    unfold PayNum Py.val Py.zero
    dsimp only
    have q1 := eqF q
    have r4 := eqF h4
    have r5 := eqF h5
    have r6 := eqF h6
    have r7 := eqF h7
    clear hE hR q h4 h5 h6 h7
    go_enter Tryd.func12, Tryd.ntmps12
    go_wp2
    go_quiet (fail)
    go_wp2
    refine bodyPost_ret (results_pay (p := 6) (x := 7) (ty := 28) rfl _ _ (w.heap.size + 1) _ _ (0, 0) _ rfl (lawdo_row w f d a c r g t s _ 0 0 0 0 0 0 0 0 _) Tryd.underlying28 rfl (by kernel_rfl)) rfl ?_
    exact ⟨rfl, lawdo_below w f d a c r g t s _ 0 0 0 0 0 0 0 0 _⟩

set_option maxRecDepth 100000 in
set_option maxHeartbeats 2000000 in
theorem lawdo_6 (p : Py) (n : Int) (w : World) : Calls Tryd.prog 12 #[p.val, .int .i64 6, .int .i64 n] w (PayNum w (payR p 6 n) (payE p 6 n)) := by
  obtain ⟨f, d, a, c, r, g, t, s⟩ := p
  obtain ⟨v, hv⟩ : ∃ v, wrap64 (wrap64 (c - r) - g) = v := ⟨_, rfl⟩
  have hg : gaveP ⟨f, d, a, c, r, g, t, s⟩ = v := hv
  obtain ⟨x, hx⟩ : ∃ x, wrap64 (r + n) = x := ⟨_, rfl⟩
  by_cases q : s = 0
  · have q1 := eqT q
    clear q
    by_cases k1 : n < 1
    · have hE : payE ⟨f, d, a, c, r, g, t, s⟩ 6 n = 1 := by simp [payE, excE, k1]
      have hR : payR ⟨f, d, a, c, r, g, t, s⟩ 6 n = Py.zero := by unfold payR; rw [if_neg (by rw [hE]; decide)]
      rw [hE, hR]
      unfold PayNum Py.val Py.zero
      dsimp only
      clear hE hR hg
      go_enter Tryd.func12, Tryd.ntmps12
      go_wp2
      go_quiet (fail)
      go_wp2
      refine bodyPost_ret (results_pay (p := 6) (x := 7) (ty := 28) rfl _ _ (w.heap.size + 1) _ _ (0, 0) _ rfl (lawdo_row w f d a c r g t s _ 0 0 0 0 0 0 0 0 _) Tryd.underlying28 rfl (by kernel_rfl)) rfl ?_
      exact ⟨rfl, lawdo_below w f d a c r g t s _ 0 0 0 0 0 0 0 0 _⟩
    · by_cases k2 : v < n
      · have hE : payE ⟨f, d, a, c, r, g, t, s⟩ 6 n = 6 := by simp [payE, excE, k1, hg, k2]
        have hR : payR ⟨f, d, a, c, r, g, t, s⟩ 6 n = Py.zero := by unfold payR; rw [if_neg (by rw [hE]; decide)]
        rw [hE, hR]
        unfold PayNum Py.val Py.zero
        dsimp only
        clear hE hR hg
        go_enter Tryd.func12, Tryd.ntmps12
        go_wp2
        go_quiet (fail)
        go_wp2
        refine bodyPost_ret (results_pay (p := 6) (x := 7) (ty := 28) rfl _ _ (w.heap.size + 1) _ _ (0, 0) _ rfl (lawdo_row w f d a c r g t s _ 0 0 0 0 0 0 0 0 _) Tryd.underlying28 rfl (by kernel_rfl)) rfl ?_
        exact ⟨rfl, lawdo_below w f d a c r g t s _ 0 0 0 0 0 0 0 0 _⟩
      · have hE : payE ⟨f, d, a, c, r, g, t, s⟩ 6 n = 0 := by simp [payE, excE, k1, hg, k2]
        have hR : payR ⟨f, d, a, c, r, g, t, s⟩ 6 n = ⟨f, d, a, c, x, g, t, s⟩ := by unfold payR; rw [if_pos hE]; simp [payP, hx]
        rw [hE, hR]
        unfold PayNum Py.val
        dsimp only
        clear hE hR hg
        go_enter Tryd.func12, Tryd.ntmps12
        go_wp2
        go_quiet (fail)
        go_wp2
        refine bodyPost_ret (results_pay (p := 6) (x := 7) (ty := 28) rfl _ _ (w.heap.size + 1) _ _ (0, 0) _ rfl (lawdo_row w f d a c r g t s _ f d a c x g t s _) Tryd.underlying28 rfl (by kernel_rfl)) rfl ?_
        exact ⟨rfl, lawdo_below w f d a c r g t s _ f d a c x g t s _⟩
  · have q1 := eqF q
    clear q
    by_cases k1 : n < 1
    · have hE : payE ⟨f, d, a, c, r, g, t, s⟩ 6 n = 1 := by simp [payE, excE, k1]
      have hR : payR ⟨f, d, a, c, r, g, t, s⟩ 6 n = Py.zero := by unfold payR; rw [if_neg (by rw [hE]; decide)]
      rw [hE, hR]
      unfold PayNum Py.val Py.zero
      dsimp only
      clear hE hR hg
      go_enter Tryd.func12, Tryd.ntmps12
      go_wp2
      go_quiet (fail)
      go_wp2
      refine bodyPost_ret (results_pay (p := 6) (x := 7) (ty := 28) rfl _ _ (w.heap.size + 1) _ _ (0, 0) _ rfl (lawdo_row w f d a c r g t s _ 0 0 0 0 0 0 0 0 _) Tryd.underlying28 rfl (by kernel_rfl)) rfl ?_
      exact ⟨rfl, lawdo_below w f d a c r g t s _ 0 0 0 0 0 0 0 0 _⟩
    · by_cases k2 : v < n
      · have hE : payE ⟨f, d, a, c, r, g, t, s⟩ 6 n = 6 := by simp [payE, excE, k1, hg, k2]
        have hR : payR ⟨f, d, a, c, r, g, t, s⟩ 6 n = Py.zero := by unfold payR; rw [if_neg (by rw [hE]; decide)]
        rw [hE, hR]
        unfold PayNum Py.val Py.zero
        dsimp only
        clear hE hR hg
        go_enter Tryd.func12, Tryd.ntmps12
        go_wp2
        go_quiet (fail)
        go_wp2
        refine bodyPost_ret (results_pay (p := 6) (x := 7) (ty := 28) rfl _ _ (w.heap.size + 1) _ _ (0, 0) _ rfl (lawdo_row w f d a c r g t s _ 0 0 0 0 0 0 0 0 _) Tryd.underlying28 rfl (by kernel_rfl)) rfl ?_
        exact ⟨rfl, lawdo_below w f d a c r g t s _ 0 0 0 0 0 0 0 0 _⟩
      · have hE : payE ⟨f, d, a, c, r, g, t, s⟩ 6 n = 0 := by simp [payE, excE, k1, hg, k2]
        have hR : payR ⟨f, d, a, c, r, g, t, s⟩ 6 n = ⟨f, d, a, c, x, g, t, s⟩ := by unfold payR; rw [if_pos hE]; simp [payP, hx]
        rw [hE, hR]
        unfold PayNum Py.val
        dsimp only
        clear hE hR hg
        go_enter Tryd.func12, Tryd.ntmps12
        go_wp2
        go_quiet (fail)
        go_wp2
        refine bodyPost_ret (results_pay (p := 6) (x := 7) (ty := 28) rfl _ _ (w.heap.size + 1) _ _ (0, 0) _ rfl (lawdo_row w f d a c r g t s _ f d a c x g t s _) Tryd.underlying28 rfl (by kernel_rfl)) rfl ?_
        exact ⟨rfl, lawdo_below w f d a c r g t s _ f d a c x g t s _⟩

set_option maxRecDepth 100000 in
set_option maxHeartbeats 2000000 in
theorem lawdo_7 (p : Py) (n : Int) (w : World) : Calls Tryd.prog 12 #[p.val, .int .i64 7, .int .i64 n] w (PayNum w (payR p 7 n) (payE p 7 n)) := by
  obtain ⟨f, d, a, c, r, g, t, s⟩ := p
  obtain ⟨v, hv⟩ : ∃ v, wrap64 (wrap64 (c - r) - g) = v := ⟨_, rfl⟩
  have hg : gaveP ⟨f, d, a, c, r, g, t, s⟩ = v := hv
  obtain ⟨x, hx⟩ : ∃ x, wrap64 (g + n) = x := ⟨_, rfl⟩
  by_cases q : s = 0
  · have q1 := eqT q
    clear q
    by_cases k1 : n < 1
    · have hE : payE ⟨f, d, a, c, r, g, t, s⟩ 7 n = 1 := by simp [payE, excE, k1]
      have hR : payR ⟨f, d, a, c, r, g, t, s⟩ 7 n = Py.zero := by unfold payR; rw [if_neg (by rw [hE]; decide)]
      rw [hE, hR]
      unfold PayNum Py.val Py.zero
      dsimp only
      clear hE hR hg
      go_enter Tryd.func12, Tryd.ntmps12
      go_wp2
      go_quiet (fail)
      go_wp2
      refine bodyPost_ret (results_pay (p := 6) (x := 7) (ty := 28) rfl _ _ (w.heap.size + 1) _ _ (0, 0) _ rfl (lawdo_row w f d a c r g t s _ 0 0 0 0 0 0 0 0 _) Tryd.underlying28 rfl (by kernel_rfl)) rfl ?_
      exact ⟨rfl, lawdo_below w f d a c r g t s _ 0 0 0 0 0 0 0 0 _⟩
    · by_cases k2 : v < n
      · have hE : payE ⟨f, d, a, c, r, g, t, s⟩ 7 n = 6 := by simp [payE, excE, k1, hg, k2]
        have hR : payR ⟨f, d, a, c, r, g, t, s⟩ 7 n = Py.zero := by unfold payR; rw [if_neg (by rw [hE]; decide)]
        rw [hE, hR]
        unfold PayNum Py.val Py.zero
        dsimp only
        clear hE hR hg
        go_enter Tryd.func12, Tryd.ntmps12
        go_wp2
        go_quiet (fail)
        go_wp2
        refine bodyPost_ret (results_pay (p := 6) (x := 7) (ty := 28) rfl _ _ (w.heap.size + 1) _ _ (0, 0) _ rfl (lawdo_row w f d a c r g t s _ 0 0 0 0 0 0 0 0 _) Tryd.underlying28 rfl (by kernel_rfl)) rfl ?_
        exact ⟨rfl, lawdo_below w f d a c r g t s _ 0 0 0 0 0 0 0 0 _⟩
      · have hE : payE ⟨f, d, a, c, r, g, t, s⟩ 7 n = 0 := by simp [payE, excE, k1, hg, k2]
        have hR : payR ⟨f, d, a, c, r, g, t, s⟩ 7 n = ⟨f, d, a, c, r, x, t, s⟩ := by unfold payR; rw [if_pos hE]; simp [payP, hx]
        rw [hE, hR]
        unfold PayNum Py.val
        dsimp only
        clear hE hR hg
        go_enter Tryd.func12, Tryd.ntmps12
        go_wp2
        go_quiet (fail)
        go_wp2
        refine bodyPost_ret (results_pay (p := 6) (x := 7) (ty := 28) rfl _ _ (w.heap.size + 1) _ _ (0, 0) _ rfl (lawdo_row w f d a c r g t s _ f d a c r x t s _) Tryd.underlying28 rfl (by kernel_rfl)) rfl ?_
        exact ⟨rfl, lawdo_below w f d a c r g t s _ f d a c r x t s _⟩
  · have q1 := eqF q
    clear q
    by_cases k1 : n < 1
    · have hE : payE ⟨f, d, a, c, r, g, t, s⟩ 7 n = 1 := by simp [payE, excE, k1]
      have hR : payR ⟨f, d, a, c, r, g, t, s⟩ 7 n = Py.zero := by unfold payR; rw [if_neg (by rw [hE]; decide)]
      rw [hE, hR]
      unfold PayNum Py.val Py.zero
      dsimp only
      clear hE hR hg
      go_enter Tryd.func12, Tryd.ntmps12
      go_wp2
      go_quiet (fail)
      go_wp2
      refine bodyPost_ret (results_pay (p := 6) (x := 7) (ty := 28) rfl _ _ (w.heap.size + 1) _ _ (0, 0) _ rfl (lawdo_row w f d a c r g t s _ 0 0 0 0 0 0 0 0 _) Tryd.underlying28 rfl (by kernel_rfl)) rfl ?_
      exact ⟨rfl, lawdo_below w f d a c r g t s _ 0 0 0 0 0 0 0 0 _⟩
    · by_cases k2 : v < n
      · have hE : payE ⟨f, d, a, c, r, g, t, s⟩ 7 n = 6 := by simp [payE, excE, k1, hg, k2]
        have hR : payR ⟨f, d, a, c, r, g, t, s⟩ 7 n = Py.zero := by unfold payR; rw [if_neg (by rw [hE]; decide)]
        rw [hE, hR]
        unfold PayNum Py.val Py.zero
        dsimp only
        clear hE hR hg
        go_enter Tryd.func12, Tryd.ntmps12
        go_wp2
        go_quiet (fail)
        go_wp2
        refine bodyPost_ret (results_pay (p := 6) (x := 7) (ty := 28) rfl _ _ (w.heap.size + 1) _ _ (0, 0) _ rfl (lawdo_row w f d a c r g t s _ 0 0 0 0 0 0 0 0 _) Tryd.underlying28 rfl (by kernel_rfl)) rfl ?_
        exact ⟨rfl, lawdo_below w f d a c r g t s _ 0 0 0 0 0 0 0 0 _⟩
      · have hE : payE ⟨f, d, a, c, r, g, t, s⟩ 7 n = 0 := by simp [payE, excE, k1, hg, k2]
        have hR : payR ⟨f, d, a, c, r, g, t, s⟩ 7 n = ⟨f, d, a, c, r, x, t, s⟩ := by unfold payR; rw [if_pos hE]; simp [payP, hx]
        rw [hE, hR]
        unfold PayNum Py.val
        dsimp only
        clear hE hR hg
        go_enter Tryd.func12, Tryd.ntmps12
        go_wp2
        go_quiet (fail)
        go_wp2
        refine bodyPost_ret (results_pay (p := 6) (x := 7) (ty := 28) rfl _ _ (w.heap.size + 1) _ _ (0, 0) _ rfl (lawdo_row w f d a c r g t s _ f d a c r x t s _) Tryd.underlying28 rfl (by kernel_rfl)) rfl ?_
        exact ⟨rfl, lawdo_below w f d a c r g t s _ f d a c r x t s _⟩

set_option maxRecDepth 100000 in
set_option maxHeartbeats 2000000 in
theorem lawdo_4 (p : Py) (n : Int) (w : World) : Calls Tryd.prog 12 #[p.val, .int .i64 4, .int .i64 n] w (PayNum w (payR p 4 n) (payE p 4 n)) := by
  obtain ⟨f, d, a, c, r, g, t, s⟩ := p
  obtain ⟨x, hx⟩ : ∃ x, wrap64 (c + n) = x := ⟨_, rfl⟩
  obtain ⟨l, hl⟩ : ∃ l, leftP ⟨f, d, a, c, r, g, t, s⟩ = l := ⟨_, rfl⟩
  have hl0 : leftP ⟨f, d, a, c, r, g, t, s⟩ = if s = 0 then wrap64 (a - c) else 0 := rfl
  by_cases q : s = 0
  · have hv : wrap64 (a - c) = l := by rw [← hl, hl0, if_pos q]
    have q1 := eqT q
    clear q hl0
    by_cases qx : x = a
    · have q2 := eqT qx
      by_cases k1 : n < 1
      · have hE : payE ⟨f, d, a, c, r, g, t, s⟩ 4 n = 1 := by simp [payE, excE, k1]
        have hR : payR ⟨f, d, a, c, r, g, t, s⟩ 4 n = Py.zero := by unfold payR; rw [if_neg (by rw [hE]; decide)]
        rw [hE, hR]
        unfold PayNum Py.val Py.zero
        dsimp only
        clear hE hR hl qx
        go_enter Tryd.func12, Tryd.ntmps12
        go_wp2
        go_quiet (fail)
        go_wp2
        refine bodyPost_ret (results_pay (p := 6) (x := 7) (ty := 28) rfl _ _ (w.heap.size + 1) _ _ (0, 0) _ rfl (lawdo_row w f d a c r g t s _ 0 0 0 0 0 0 0 0 _) Tryd.underlying28 rfl (by kernel_rfl)) rfl ?_
        exact ⟨rfl, lawdo_below w f d a c r g t s _ 0 0 0 0 0 0 0 0 _⟩
      · by_cases k2 : l < n
        · have hE : payE ⟨f, d, a, c, r, g, t, s⟩ 4 n = 6 := by simp [payE, excE, k1, hl, k2]
          have hR : payR ⟨f, d, a, c, r, g, t, s⟩ 4 n = Py.zero := by unfold payR; rw [if_neg (by rw [hE]; decide)]
          rw [hE, hR]
          unfold PayNum Py.val Py.zero
          dsimp only
          clear hE hR hl qx
          go_enter Tryd.func12, Tryd.ntmps12
          go_wp2
          go_quiet (fail)
          go_wp2
          refine bodyPost_ret (results_pay (p := 6) (x := 7) (ty := 28) rfl _ _ (w.heap.size + 1) _ _ (0, 0) _ rfl (lawdo_row w f d a c r g t s _ 0 0 0 0 0 0 0 0 _) Tryd.underlying28 rfl (by kernel_rfl)) rfl ?_
          exact ⟨rfl, lawdo_below w f d a c r g t s _ 0 0 0 0 0 0 0 0 _⟩
        · have hE : payE ⟨f, d, a, c, r, g, t, s⟩ 4 n = 0 := by simp [payE, excE, k1, hl, k2]
          have hR : payR ⟨f, d, a, c, r, g, t, s⟩ 4 n = ⟨f, d, a, x, r, g, t, 1⟩ := by unfold payR; rw [if_pos hE]; simp [payP, hx, qx]
          rw [hE, hR]
          unfold PayNum Py.val
          dsimp only
          clear hE hR hl qx
          go_enter Tryd.func12, Tryd.ntmps12
          go_wp2
          go_quiet (fail)
          go_wp2
          refine bodyPost_ret (results_pay (p := 6) (x := 7) (ty := 28) rfl _ _ (w.heap.size + 1) _ _ (0, 0) _ rfl (lawdo_row w f d a c r g t s _ f d a x r g t 1 _) Tryd.underlying28 rfl (by kernel_rfl)) rfl ?_
          exact ⟨rfl, lawdo_below w f d a c r g t s _ f d a x r g t 1 _⟩
    · have q2 := eqF qx
      by_cases k1 : n < 1
      · have hE : payE ⟨f, d, a, c, r, g, t, s⟩ 4 n = 1 := by simp [payE, excE, k1]
        have hR : payR ⟨f, d, a, c, r, g, t, s⟩ 4 n = Py.zero := by unfold payR; rw [if_neg (by rw [hE]; decide)]
        rw [hE, hR]
        unfold PayNum Py.val Py.zero
        dsimp only
        clear hE hR hl qx
        go_enter Tryd.func12, Tryd.ntmps12
        go_wp2
        go_quiet (fail)
        go_wp2
        refine bodyPost_ret (results_pay (p := 6) (x := 7) (ty := 28) rfl _ _ (w.heap.size + 1) _ _ (0, 0) _ rfl (lawdo_row w f d a c r g t s _ 0 0 0 0 0 0 0 0 _) Tryd.underlying28 rfl (by kernel_rfl)) rfl ?_
        exact ⟨rfl, lawdo_below w f d a c r g t s _ 0 0 0 0 0 0 0 0 _⟩
      · by_cases k2 : l < n
        · have hE : payE ⟨f, d, a, c, r, g, t, s⟩ 4 n = 6 := by simp [payE, excE, k1, hl, k2]
          have hR : payR ⟨f, d, a, c, r, g, t, s⟩ 4 n = Py.zero := by unfold payR; rw [if_neg (by rw [hE]; decide)]
          rw [hE, hR]
          unfold PayNum Py.val Py.zero
          dsimp only
          clear hE hR hl qx
          go_enter Tryd.func12, Tryd.ntmps12
          go_wp2
          go_quiet (fail)
          go_wp2
          refine bodyPost_ret (results_pay (p := 6) (x := 7) (ty := 28) rfl _ _ (w.heap.size + 1) _ _ (0, 0) _ rfl (lawdo_row w f d a c r g t s _ 0 0 0 0 0 0 0 0 _) Tryd.underlying28 rfl (by kernel_rfl)) rfl ?_
          exact ⟨rfl, lawdo_below w f d a c r g t s _ 0 0 0 0 0 0 0 0 _⟩
        · have hE : payE ⟨f, d, a, c, r, g, t, s⟩ 4 n = 0 := by simp [payE, excE, k1, hl, k2]
          have hR : payR ⟨f, d, a, c, r, g, t, s⟩ 4 n = ⟨f, d, a, x, r, g, t, s⟩ := by unfold payR; rw [if_pos hE]; simp [payP, hx, qx]
          rw [hE, hR]
          unfold PayNum Py.val
          dsimp only
          clear hE hR hl qx
          go_enter Tryd.func12, Tryd.ntmps12
          go_wp2
          go_quiet (fail)
          go_wp2
          refine bodyPost_ret (results_pay (p := 6) (x := 7) (ty := 28) rfl _ _ (w.heap.size + 1) _ _ (0, 0) _ rfl (lawdo_row w f d a c r g t s _ f d a x r g t s _) Tryd.underlying28 rfl (by kernel_rfl)) rfl ?_
          exact ⟨rfl, lawdo_below w f d a c r g t s _ f d a x r g t s _⟩
  · have hv : (0 : Int) = l := by rw [← hl, hl0, if_neg q]
    have q1 := eqF q
    subst hv
    clear q hl0
    by_cases qx : x = a
    · have q2 := eqT qx
      by_cases k1 : n < 1
      · have hE : payE ⟨f, d, a, c, r, g, t, s⟩ 4 n = 1 := by simp [payE, excE, k1]
        have hR : payR ⟨f, d, a, c, r, g, t, s⟩ 4 n = Py.zero := by unfold payR; rw [if_neg (by rw [hE]; decide)]
        rw [hE, hR]
        unfold PayNum Py.val Py.zero
        dsimp only
        clear hE hR hl qx
        go_enter Tryd.func12, Tryd.ntmps12
        go_wp2
        go_quiet (fail)
        go_wp2
        refine bodyPost_ret (results_pay (p := 6) (x := 7) (ty := 28) rfl _ _ (w.heap.size + 1) _ _ (0, 0) _ rfl (lawdo_row w f d a c r g t s _ 0 0 0 0 0 0 0 0 _) Tryd.underlying28 rfl (by kernel_rfl)) rfl ?_
        exact ⟨rfl, lawdo_below w f d a c r g t s _ 0 0 0 0 0 0 0 0 _⟩
      · by_cases k2 : 0 < n
        · have hE : payE ⟨f, d, a, c, r, g, t, s⟩ 4 n = 6 := by simp [payE, excE, k1, hl, k2]
          have hR : payR ⟨f, d, a, c, r, g, t, s⟩ 4 n = Py.zero := by unfold payR; rw [if_neg (by rw [hE]; decide)]
          rw [hE, hR]
          unfold PayNum Py.val Py.zero
          dsimp only
          clear hE hR hl qx
          go_enter Tryd.func12, Tryd.ntmps12
          go_wp2
          go_quiet (fail)
          go_wp2
          refine bodyPost_ret (results_pay (p := 6) (x := 7) (ty := 28) rfl _ _ (w.heap.size + 1) _ _ (0, 0) _ rfl (lawdo_row w f d a c r g t s _ 0 0 0 0 0 0 0 0 _) Tryd.underlying28 rfl (by kernel_rfl)) rfl ?_
          exact ⟨rfl, lawdo_below w f d a c r g t s _ 0 0 0 0 0 0 0 0 _⟩
        · exact absurd k2 (by omega)
    · have q2 := eqF qx
      by_cases k1 : n < 1
      · have hE : payE ⟨f, d, a, c, r, g, t, s⟩ 4 n = 1 := by simp [payE, excE, k1]
        have hR : payR ⟨f, d, a, c, r, g, t, s⟩ 4 n = Py.zero := by unfold payR; rw [if_neg (by rw [hE]; decide)]
        rw [hE, hR]
        unfold PayNum Py.val Py.zero
        dsimp only
        clear hE hR hl qx
        go_enter Tryd.func12, Tryd.ntmps12
        go_wp2
        go_quiet (fail)
        go_wp2
        refine bodyPost_ret (results_pay (p := 6) (x := 7) (ty := 28) rfl _ _ (w.heap.size + 1) _ _ (0, 0) _ rfl (lawdo_row w f d a c r g t s _ 0 0 0 0 0 0 0 0 _) Tryd.underlying28 rfl (by kernel_rfl)) rfl ?_
        exact ⟨rfl, lawdo_below w f d a c r g t s _ 0 0 0 0 0 0 0 0 _⟩
      · by_cases k2 : 0 < n
        · have hE : payE ⟨f, d, a, c, r, g, t, s⟩ 4 n = 6 := by simp [payE, excE, k1, hl, k2]
          have hR : payR ⟨f, d, a, c, r, g, t, s⟩ 4 n = Py.zero := by unfold payR; rw [if_neg (by rw [hE]; decide)]
          rw [hE, hR]
          unfold PayNum Py.val Py.zero
          dsimp only
          clear hE hR hl qx
          go_enter Tryd.func12, Tryd.ntmps12
          go_wp2
          go_quiet (fail)
          go_wp2
          refine bodyPost_ret (results_pay (p := 6) (x := 7) (ty := 28) rfl _ _ (w.heap.size + 1) _ _ (0, 0) _ rfl (lawdo_row w f d a c r g t s _ 0 0 0 0 0 0 0 0 _) Tryd.underlying28 rfl (by kernel_rfl)) rfl ?_
          exact ⟨rfl, lawdo_below w f d a c r g t s _ 0 0 0 0 0 0 0 0 _⟩
        · exact absurd k2 (by omega)

/-- What the law's do answers. -/
theorem lawdo_any (p : Py) (op n : Int) (w : World) : Calls Tryd.prog 12 #[p.val, .int .i64 op, .int .i64 n] w (PayNum w (payR p op n) (payE p op n)) := by
  by_cases h4 : op = 4
  · subst h4; exact lawdo_4 p n w
  · by_cases h5 : op = 5
    · subst h5; exact lawdo_5 p n w
    · by_cases h6 : op = 6
      · subst h6; exact lawdo_6 p n w
      · by_cases h7 : op = 7
        · subst h7; exact lawdo_7 p n w
        · exact lawdo_no p n w op h4 h5 h6 h7
end Go.Proofs.YtenghafnpmlbnaaDoor
