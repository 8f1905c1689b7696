/-
  What saga.Begin, Ready, Turn and Leg answer.
-/
import Derived.Test.YtjphkpohcgkcmaaGreatDoorGrB
import Derived.Test.YtjphkpohcgkcmaaGreatDoorSg11
import Derived.Test.YtjphkpohcgkcmaaGreatDoorGrA
import Derived.Lib.Hide
import Derived.LoopTactic
import Derived.IntWalk
import Derived.WalkSpells
import Derived.Deep.QuietTactic
namespace Go.Proofs.YtjphkpohcgkcmaaGreatDoor
open Go Go.RowKit
set_option linter.unusedVariables false

/-- A saga, and nothing below is turned. -/
def SgRes (w : World) (s : Sg) (e : Ending) (w' : World) : Prop := e = .returned s.val ∧ Below w.heap.size w w'

set_option maxRecDepth 100000 in
theorem sbegin_any (r : Rq) (w : World) : Calls Tryz.prog 74 #[r.val] w (SgRes w (beginS r)) := by
  obtain ⟨k, o, a, b, m, l, u⟩ := r
  unfold SgRes beginS Sg.val Rq.val
  dsimp only
  go_enter Tryz.func74, Tryz.ntmps74
  go_wp2
  refine bodyPost_ret (results_cell_row (p := 2) (ty := 73) rfl _ _ (w.heap.size + 1) _ _ (0, 0) _ rfl (heap_alloc2_new w _ _) Tryz.underlying73 rfl (by kernel_rfl)) rfl ?_
  exact ⟨rfl, ((Below.refl _ _).alloc (Nat.le_refl _) _).alloc (by simp) _⟩

set_option maxRecDepth 100000 in
theorem sready_any (s : Sg) (w : World) : Calls Tryz.prog 84 #[s.val] w (BoolRes w (decide (readyS s))) := by
  obtain ⟨⟨k, o, a, b, m, l, u⟩, p, e, t, y⟩ := s
  unfold BoolRes readyS Sg.val
  dsimp only
  by_cases hp : p = 0
  · have q1 := eqT hp
    by_cases hl : l ≤ e
    · rw [decide_eq_true (show p = 0 ∧ l ≤ e from ⟨hp, hl⟩)]
      have q2 := decide_eq_true hl
      clear hp hl
      go_enter Tryz.func84, Tryz.ntmps84
      go_wp2
      go_ret
      exact ⟨rfl, (Below.refl _ _).alloc (Nat.le_refl _) _⟩
    · rw [decide_eq_false (show ¬ (p = 0 ∧ l ≤ e) from fun h => hl h.2)]
      have q2 := decide_eq_false hl
      clear hp hl
      go_enter Tryz.func84, Tryz.ntmps84
      go_wp2
      go_ret
      exact ⟨rfl, (Below.refl _ _).alloc (Nat.le_refl _) _⟩
  · rw [decide_eq_false (show ¬ (p = 0 ∧ l ≤ e) from fun h => hp h.1)]
    have q1 := eqF hp
    clear hp
    go_enter Tryz.func84, Tryz.ntmps84
    go_wp2
    go_ret
    exact ⟨rfl, (Below.refl _ _).alloc (Nat.le_refl _) _⟩

set_option maxRecDepth 100000 in
theorem sturn_any (s : Sg) (why : Int) (w : World) : Calls Tryz.prog 112 #[s.val, .int .i64 why] w (SgRes w (turnS s why)) := by
  obtain ⟨⟨k, o, a, b, m, l, u⟩, p, e, t, y⟩ := s
  unfold SgRes turnS
  by_cases hp : p = 0
  · have q1 := eqT hp
    rw [if_pos (show p = 0 from hp)]
    unfold Sg.val
    dsimp only
    clear hp
    go_enter Tryz.func112, Tryz.ntmps112
    go_wp2
    refine bodyPost_ret (results_cell_row (p := 4) (ty := 73) rfl _ _ (w.heap.size + 1) _ _ (0, 0) _ rfl (heap_alloc2_new w _ _) Tryz.underlying73 rfl (by kernel_rfl)) rfl ?_
    exact ⟨rfl, ((Below.refl _ _).alloc (Nat.le_refl _) _).alloc (by simp) _⟩
  · have q1 := eqF hp
    rw [if_neg (show ¬ p = 0 from hp)]
    unfold Sg.val
    dsimp only
    clear hp
    go_enter Tryz.func112, Tryz.ntmps112
    go_wp2
    refine bodyPost_ret (results_cell_row (p := 4) (ty := 73) rfl _ _ (w.heap.size + 1) _ _ (0, 0) _ rfl (heap_alloc2_new w _ _) Tryz.underlying73 rfl (by kernel_rfl)) rfl ?_
    exact ⟨rfl, ((Below.refl _ _).alloc (Nat.le_refl _) _).alloc (by simp) _⟩

theorem turn_fwd (s : Sg) (why : Int) (h : s.ph = 0) (w : World) : Calls Tryz.prog 112 #[s.val, .int .i64 why] w (SgRes w ⟨s.rq, 1, s.leg, s.tries, why⟩) := by
  have := sturn_any s why w
  unfold turnS at this
  rwa [if_pos h] at this

set_option maxRecDepth 100000 in
set_option maxHeartbeats 1000000 in
theorem sleg_any (s : Sg) (ok : Bool) (w : World) : Calls Tryz.prog 87 #[s.val, .bool ok] w (SgRes w (legS s ok)) := by
  have HRD := Lib.hid (sready_any s)
  obtain ⟨⟨k, o, a, b, m, l, u⟩, p, e, t, y⟩ := s
  unfold BoolRes readyS Sg.val at HRD
  unfold SgRes
  dsimp only at HRD
  by_cases hp : p = 0
  · have q1 := neF hp
    by_cases hl : l ≤ e
    · have hE := legS_stay (s := ⟨⟨k, o, a, b, m, l, u⟩, p, e, t, y⟩) ok (by unfold waitS; dsimp only; omega)
      rw [decide_eq_true (show p = 0 ∧ l ≤ e from ⟨hp, hl⟩)] at HRD
      rw [hE]
      unfold Sg.val
      dsimp only
      clear hE hp hl
      go_enter Tryz.func87, Tryz.ntmps87
      go_wp2_with fail
      refine (HRD.out _).mono ?_
      rintro _ w1 ⟨rfl, hb1⟩
      have HM := Lib.hid (((Sg11.new w 73 k o a b m l u p e t y).alloc (.cells #[.int .i64 0, .int .i64 0, .int .i64 0, .int .i64 0, .int .i64 0, .int .i64 0, .int .i64 0, .int .i64 0, .int .i64 0, .int .i64 0, .int .i64 0] 73) (by simp)).below hb1 (by simp; omega))
      have hr := (Sg11.new (w.alloc (.cells #[.int .i64 k, .int .i64 o, .int .i64 a, .int .i64 b, .int .i64 m, .int .i64 l, .int .i64 u, .int .i64 p, .int .i64 e, .int .i64 t, .int .i64 y] 73)) 73 0 0 0 0 0 0 0 0 0 0 0).below hb1 (by simp)
      rw [alloc_size] at hr
      have HR := Lib.hid hr
      have HB := Lib.hid ((((Below.refl w.heap.size w).alloc (Nat.le_refl _) (.cells #[.int .i64 k, .int .i64 o, .int .i64 a, .int .i64 b, .int .i64 m, .int .i64 l, .int .i64 u, .int .i64 p, .int .i64 e, .int .i64 t, .int .i64 y] 73)).alloc (by simp) (.cells #[.int .i64 0, .int .i64 0, .int .i64 0, .int .i64 0, .int .i64 0, .int .i64 0, .int .i64 0, .int .i64 0, .int .i64 0, .int .i64 0, .int .i64 0] 73)).trans (hb1.mono (by simp; omega)))
      obtain ⟨x0, x1, x2, x3, x4, x5, x6, x7, x8, x9, x10⟩ := HM.out.cells
      obtain ⟨f0, f1, f2, f3, f4, f5, f6, f7, f8, f9, f10⟩ := HR.out.loose
      obtain ⟨z0, z1, z2, z3, z4, z5, z6, z7, z8, z9, z10⟩ := HR.out.cells
      clear hb1 hr HRD
      go_wp2
      refine bodyPost_ret (results_cell_row (p := 4) (ty := 73) rfl _ _ (w.heap.size + 1) _ _ (0, 0) _ rfl (HR.out.put k o a b m l u p e t y) Tryz.underlying73 rfl (by kernel_rfl)) rfl ?_
      exact ⟨rfl, Sg11.put_below HB.out (Nat.le_succ _) k o a b m l u p e t y⟩
    · have hw : waitS ⟨⟨k, o, a, b, m, l, u⟩, p, e, t, y⟩ := ⟨hp, by dsimp only; omega⟩
      rw [decide_eq_false (show ¬ (p = 0 ∧ l ≤ e) from fun h => hl h.2)] at HRD
      cases ok
      · obtain ⟨x, hx⟩ : ∃ x, wrap64 (t + 1) = x := ⟨_, rfl⟩
        by_cases ht : 3 < x
        · have hE := legS_back hw (by dsimp only; rw [hx]; exact ht)
          (try dsimp only at hE)
          rw [hE]
          unfold Sg.val
          dsimp only
          rw [hx]
          have q3 := decide_eq_true ht
          have HTN := Lib.hid (turn_fwd ⟨⟨k, o, a, b, m, l, u⟩, p, e, x, y⟩ 9 hp)
          unfold SgRes Sg.val at HTN
          dsimp only at HTN
          clear hE hp hl hw ht
          go_enter Tryz.func87, Tryz.ntmps87
          go_wp2_with fail
          refine (HRD.out _).mono ?_
          rintro _ w1 ⟨rfl, hb1⟩
          have HM := Lib.hid (((Sg11.new w 73 k o a b m l u p e t y).alloc (.cells #[.int .i64 0, .int .i64 0, .int .i64 0, .int .i64 0, .int .i64 0, .int .i64 0, .int .i64 0, .int .i64 0, .int .i64 0, .int .i64 0, .int .i64 0] 73) (by simp)).below hb1 (by simp; omega))
          have hr := (Sg11.new (w.alloc (.cells #[.int .i64 k, .int .i64 o, .int .i64 a, .int .i64 b, .int .i64 m, .int .i64 l, .int .i64 u, .int .i64 p, .int .i64 e, .int .i64 t, .int .i64 y] 73)) 73 0 0 0 0 0 0 0 0 0 0 0).below hb1 (by simp)
          rw [alloc_size] at hr
          have HR := Lib.hid hr
          have HB := Lib.hid ((((Below.refl w.heap.size w).alloc (Nat.le_refl _) (.cells #[.int .i64 k, .int .i64 o, .int .i64 a, .int .i64 b, .int .i64 m, .int .i64 l, .int .i64 u, .int .i64 p, .int .i64 e, .int .i64 t, .int .i64 y] 73)).alloc (by simp) (.cells #[.int .i64 0, .int .i64 0, .int .i64 0, .int .i64 0, .int .i64 0, .int .i64 0, .int .i64 0, .int .i64 0, .int .i64 0, .int .i64 0, .int .i64 0] 73)).trans (hb1.mono (by simp; omega)))
          obtain ⟨x0, x1, x2, x3, x4, x5, x6, x7, x8, x9, x10⟩ := HM.out.cells
          obtain ⟨f0, f1, f2, f3, f4, f5, f6, f7, f8, f9, f10⟩ := HM.out.loose
          obtain ⟨y0, y1, y2, y3, y4, y5, y6, y7, y8, y9, y10⟩ := HR.out.loose
          obtain ⟨z0, z1, z2, z3, z4, z5, z6, z7, z8, z9, z10⟩ := HR.out.cells
          clear hb1 hr HRD
          go_wp2_with fail
          (try rw [hx])
          have hlt : w.heap.size + 1 < w1.heap.size := HR.out.lt
          have HR2 := Lib.hid (HR.out.setOther (b := w.heap.size) (by omega) 9 x)
          have HB2 := Lib.hid (HB.out.setCell (p := ⟨w.heap.size, 9, none⟩) (Nat.le_refl _) (.int .i64 x))
          clear x0 x1 x2 x3 x4 x5 x6 x7 x8 x9 x10 y0 y1 y2 y3 y4 y5 y6 y7 y8 y9 y10 f0 f1 f2 f3 f4 f5 f6 f7 f8 f9 f10 z0 z1 z2 z3 z4 z5 z6 z7 z8 z9 z10 HM HR HB
          generalize w1.setCell ⟨w.heap.size, 9, none⟩ (.int .i64 x) = w2 at HR2 HB2 ⊢
          refine (HTN.out _).mono ?_
          rintro _ w3 ⟨rfl, hb3⟩
          have HR3 := Lib.hid (HR2.out.below hb3 HR2.out.lt)
          have HB3 := Lib.hid (HB2.out.trans (hb3.mono HB2.out.size))
          obtain ⟨z0, z1, z2, z3, z4, z5, z6, z7, z8, z9, z10⟩ := HR3.out.cells
          obtain ⟨f0, f1, f2, f3, f4, f5, f6, f7, f8, f9, f10⟩ := HR3.out.loose
          clear hb3 HTN HR2 HB2
          go_wp2
          refine bodyPost_ret (results_cell_row (p := 4) (ty := 73) rfl _ _ (w.heap.size + 1) _ _ (0, 0) _ rfl (HR3.out.put k o a b m l u 1 e x 9) Tryz.underlying73 rfl (by kernel_rfl)) rfl ?_
          exact ⟨rfl, Sg11.put_below HB3.out (Nat.le_succ _) k o a b m l u 1 e x 9⟩
        · have hE := legS_no hw (by dsimp only; rw [hx]; exact ht)
          (try dsimp only at hE)
          rw [hE]
          unfold Sg.val
          dsimp only
          rw [hx]
          have q3 := decide_eq_false ht
          clear hE hp hl hw ht
          go_enter Tryz.func87, Tryz.ntmps87
          go_wp2_with fail
          refine (HRD.out _).mono ?_
          rintro _ w1 ⟨rfl, hb1⟩
          have HM := Lib.hid (((Sg11.new w 73 k o a b m l u p e t y).alloc (.cells #[.int .i64 0, .int .i64 0, .int .i64 0, .int .i64 0, .int .i64 0, .int .i64 0, .int .i64 0, .int .i64 0, .int .i64 0, .int .i64 0, .int .i64 0] 73) (by simp)).below hb1 (by simp; omega))
          have hr := (Sg11.new (w.alloc (.cells #[.int .i64 k, .int .i64 o, .int .i64 a, .int .i64 b, .int .i64 m, .int .i64 l, .int .i64 u, .int .i64 p, .int .i64 e, .int .i64 t, .int .i64 y] 73)) 73 0 0 0 0 0 0 0 0 0 0 0).below hb1 (by simp)
          rw [alloc_size] at hr
          have HR := Lib.hid hr
          have HB := Lib.hid ((((Below.refl w.heap.size w).alloc (Nat.le_refl _) (.cells #[.int .i64 k, .int .i64 o, .int .i64 a, .int .i64 b, .int .i64 m, .int .i64 l, .int .i64 u, .int .i64 p, .int .i64 e, .int .i64 t, .int .i64 y] 73)).alloc (by simp) (.cells #[.int .i64 0, .int .i64 0, .int .i64 0, .int .i64 0, .int .i64 0, .int .i64 0, .int .i64 0, .int .i64 0, .int .i64 0, .int .i64 0, .int .i64 0] 73)).trans (hb1.mono (by simp; omega)))
          obtain ⟨x0, x1, x2, x3, x4, x5, x6, x7, x8, x9, x10⟩ := HM.out.cells
          obtain ⟨f0, f1, f2, f3, f4, f5, f6, f7, f8, f9, f10⟩ := HM.out.loose
          obtain ⟨y0, y1, y2, y3, y4, y5, y6, y7, y8, y9, y10⟩ := HR.out.loose
          obtain ⟨z0, z1, z2, z3, z4, z5, z6, z7, z8, z9, z10⟩ := HR.out.cells
          clear hb1 hr HRD
          go_wp2
          (try rw [hx])
          have HR2 := Lib.hid (HR.out.setOther (b := w.heap.size) (by omega) 9 x)
          have HB2 := Lib.hid (HB.out.setCell (p := ⟨w.heap.size, 9, none⟩) (Nat.le_refl _) (.int .i64 x))
          refine bodyPost_ret (results_cell_row (p := 4) (ty := 73) rfl _ _ (w.heap.size + 1) _ _ (0, 0) _ rfl (HR2.out.put k o a b m l u p e x y) Tryz.underlying73 rfl (by kernel_rfl)) rfl ?_
          exact ⟨rfl, Sg11.put_below HB2.out (Nat.le_succ _) k o a b m l u p e x y⟩
      · obtain ⟨x, hx⟩ : ∃ x, wrap64 (e + 1) = x := ⟨_, rfl⟩
        have hE := legS_yes hw
        (try dsimp only at hE)
        rw [hE]
        unfold Sg.val
        dsimp only
        rw [hx]
        clear hE hp hl hw
        go_enter Tryz.func87, Tryz.ntmps87
        go_wp2_with fail
        refine (HRD.out _).mono ?_
        rintro _ w1 ⟨rfl, hb1⟩
        have HM := Lib.hid (((Sg11.new w 73 k o a b m l u p e t y).alloc (.cells #[.int .i64 0, .int .i64 0, .int .i64 0, .int .i64 0, .int .i64 0, .int .i64 0, .int .i64 0, .int .i64 0, .int .i64 0, .int .i64 0, .int .i64 0] 73) (by simp)).below hb1 (by simp; omega))
        have hr := (Sg11.new (w.alloc (.cells #[.int .i64 k, .int .i64 o, .int .i64 a, .int .i64 b, .int .i64 m, .int .i64 l, .int .i64 u, .int .i64 p, .int .i64 e, .int .i64 t, .int .i64 y] 73)) 73 0 0 0 0 0 0 0 0 0 0 0).below hb1 (by simp)
        rw [alloc_size] at hr
        have HR := Lib.hid hr
        have HB := Lib.hid ((((Below.refl w.heap.size w).alloc (Nat.le_refl _) (.cells #[.int .i64 k, .int .i64 o, .int .i64 a, .int .i64 b, .int .i64 m, .int .i64 l, .int .i64 u, .int .i64 p, .int .i64 e, .int .i64 t, .int .i64 y] 73)).alloc (by simp) (.cells #[.int .i64 0, .int .i64 0, .int .i64 0, .int .i64 0, .int .i64 0, .int .i64 0, .int .i64 0, .int .i64 0, .int .i64 0, .int .i64 0, .int .i64 0] 73)).trans (hb1.mono (by simp; omega)))
        obtain ⟨x0, x1, x2, x3, x4, x5, x6, x7, x8, x9, x10⟩ := HM.out.cells
        obtain ⟨f0, f1, f2, f3, f4, f5, f6, f7, f8, f9, f10⟩ := HM.out.loose
        obtain ⟨y0, y1, y2, y3, y4, y5, y6, y7, y8, y9, y10⟩ := HR.out.loose
        obtain ⟨z0, z1, z2, z3, z4, z5, z6, z7, z8, z9, z10⟩ := HR.out.cells
        clear hb1 hr HRD
        go_wp2
        (try rw [hx])
        have HR2 := Lib.hid ((HR.out.setOther (b := w.heap.size) (by omega) 8 x).setOther (b := w.heap.size) (by omega) 9 0)
        have HB2 := Lib.hid ((HB.out.setCell (p := ⟨w.heap.size, 8, none⟩) (Nat.le_refl _) (.int .i64 x)).setCell (p := ⟨w.heap.size, 9, none⟩) (Nat.le_refl _) (.int .i64 0))
        refine bodyPost_ret (results_cell_row (p := 4) (ty := 73) rfl _ _ (w.heap.size + 1) _ _ (0, 0) _ rfl (HR2.out.put k o a b m l u p x 0 y) Tryz.underlying73 rfl (by kernel_rfl)) rfl ?_
        exact ⟨rfl, Sg11.put_below HB2.out (Nat.le_succ _) k o a b m l u p x 0 y⟩
  · have q1 := neT hp
    have hE := legS_stay (s := ⟨⟨k, o, a, b, m, l, u⟩, p, e, t, y⟩) ok (fun h => hp h.1)
    rw [hE]
    unfold Sg.val
    dsimp only
    clear hE hp HRD
    go_enter Tryz.func87, Tryz.ntmps87
    go_wp2
    refine bodyPost_ret (results_cell_row (p := 4) (ty := 73) rfl _ _ (w.heap.size + 1) _ _ (0, 0) _ rfl (heap_alloc2_new w _ _) Tryz.underlying73 rfl (by kernel_rfl)) rfl ?_
    exact ⟨rfl, ((Below.refl _ _).alloc (Nat.le_refl _) _).alloc (by simp) _⟩
end Go.Proofs.YtjphkpohcgkcmaaGreatDoor
