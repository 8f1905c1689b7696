/-
  What the functions of saga answer.
-/
import Derived.Test.YtdcghnoioecglaaSagaLeg
import Derived.Test.YtdcghnoioecglaaAfter
import Derived.Deep.QuietTactic
namespace Go.Proofs.Ytdcghnoioecglaa
open Go Go.RowKit
set_option linter.unusedVariables false

set_option maxRecDepth 100000 in
theorem sbegin_any (r : Rq) (w : World) : Calls Try.prog 8 #[r.val] w (SgRes w (beginS r)) := by
  obtain ⟨k, o, a, b, m, l, u⟩ := r
  unfold SgRes beginS Sg.val Rq.val
  dsimp only
  go_enter Try.func8, Try.ntmps8
  go_wp2
  refine bodyPost_ret (results_cell_row (p := 2) (ty := 30) rfl _ _ (w.heap.size + 1) _ _ (0, 0) _ rfl (heap_alloc2_new w _ _) Try.underlying30 rfl (by kernel_rfl)) rfl ?_
  exact ⟨rfl, ((Below.refl _ _).alloc (Nat.le_refl _) _).alloc (by simp) _⟩

set_option maxRecDepth 100000 in
theorem sready_any (s : Sg) (w : World) : Calls Try.prog 9 #[s.val] w (BoolRes w (decide (readyS s))) := by
  obtain ⟨⟨k, o, a, b, m, l, u⟩, p, e, t, y⟩ := s
  unfold BoolRes readyS Sg.val
  dsimp only
  by_cases hp : p = 0
  · have q1 := eqT hp
    by_cases hl : l ≤ e
    · rw [decide_eq_true (show p = 0 ∧ l ≤ e from ⟨hp, hl⟩)]
      have q2 := decide_eq_true hl
      clear hp hl
      go_enter Try.func9, Try.ntmps9
      go_wp2
      go_ret
      exact ⟨rfl, (Below.refl _ _).alloc (Nat.le_refl _) _⟩
    · rw [decide_eq_false (show ¬ (p = 0 ∧ l ≤ e) from fun h => hl h.2)]
      have q2 := decide_eq_false hl
      clear hp hl
      go_enter Try.func9, Try.ntmps9
      go_wp2
      go_ret
      exact ⟨rfl, (Below.refl _ _).alloc (Nat.le_refl _) _⟩
  · rw [decide_eq_false (show ¬ (p = 0 ∧ l ≤ e) from fun h => hp h.1)]
    have q1 := eqF hp
    clear hp
    go_enter Try.func9, Try.ntmps9
    go_wp2
    go_ret
    exact ⟨rfl, (Below.refl _ _).alloc (Nat.le_refl _) _⟩

set_option maxRecDepth 100000 in
theorem sturn_any (s : Sg) (why : Int) (w : World) : Calls Try.prog 12 #[s.val, .int .i64 why] w (SgRes w (turnS s why)) := by
  obtain ⟨⟨k, o, a, b, m, l, u⟩, p, e, t, y⟩ := s
  unfold SgRes turnS
  by_cases hp : p = 0
  · have q1 := eqT hp
    rw [if_pos (show p = 0 from hp)]
    unfold Sg.val
    dsimp only
    clear hp
    go_enter Try.func12, Try.ntmps12
    go_wp2
    refine bodyPost_ret (results_cell_row (p := 4) (ty := 30) rfl _ _ (w.heap.size + 1) _ _ (0, 0) _ rfl (heap_alloc2_new w _ _) Try.underlying30 rfl (by kernel_rfl)) rfl ?_
    exact ⟨rfl, ((Below.refl _ _).alloc (Nat.le_refl _) _).alloc (by simp) _⟩
  · have q1 := eqF hp
    rw [if_neg (show ¬ p = 0 from hp)]
    unfold Sg.val
    dsimp only
    clear hp
    go_enter Try.func12, Try.ntmps12
    go_wp2
    refine bodyPost_ret (results_cell_row (p := 4) (ty := 30) rfl _ _ (w.heap.size + 1) _ _ (0, 0) _ rfl (heap_alloc2_new w _ _) Try.underlying30 rfl (by kernel_rfl)) rfl ?_
    exact ⟨rfl, ((Below.refl _ _).alloc (Nat.le_refl _) _).alloc (by simp) _⟩

set_option maxRecDepth 100000 in
theorem send_any (s : Sg) (w : World) : Calls Try.prog 13 #[s.val] w (SgRes w (endS s)) := by
  obtain ⟨⟨k, o, a, b, m, l, u⟩, p, e, t, y⟩ := s
  unfold SgRes endS Sg.val
  dsimp only
  go_enter Try.func13, Try.ntmps13
  go_wp2
  refine bodyPost_ret (results_cell_row (p := 2) (ty := 30) rfl _ _ (w.heap.size + 1) _ _ (0, 0) _ rfl (heap_alloc2_new w _ _) Try.underlying30 rfl (by kernel_rfl)) rfl ?_
  exact ⟨rfl, ((Below.refl _ _).alloc (Nat.le_refl _) _).alloc (by simp) _⟩
theorem turn_fwd (s : Sg) (why : Int) (h : s.ph = 0) (w : World) : Calls Try.prog 12 #[s.val, .int .i64 why] w (SgRes w ⟨s.rq, 1, s.leg, s.tries, why⟩) := by
  have := sturn_any s why w
  unfold turnS at this
  rwa [if_pos h] at this

set_option maxRecDepth 100000 in
set_option maxHeartbeats 1000000 in
theorem sleg_any (s : Sg) (ok : Bool) (w : World) : Calls Try.prog 10 #[s.val, .bool ok] w (SgRes w (legS s ok)) := by
  have HRD := Lib.hid (sready_any s)
  obtain ⟨⟨k, o, a, b, m, l, u⟩, p, e, t, y⟩ := s
  unfold BoolRes readyS Sg.val at HRD
  unfold SgRes
  dsimp only at HRD
  by_cases hp : p = 0
  · have q1 := neF hp
    by_cases hl : l ≤ e
    · have hE := legS_stay (s := ⟨⟨k, o, a, b, m, l, u⟩, p, e, t, y⟩) ok (by unfold waitS; dsimp only; omega)
      rw [decide_eq_true (show p = 0 ∧ l ≤ e from ⟨hp, hl⟩)] at HRD
      rw [hE]
      unfold Sg.val
      dsimp only
      clear hE hp hl
      go_enter Try.func10, Try.ntmps10
      go_wp2_with fail
      refine (HRD.out _).mono ?_
      rintro _ w1 ⟨rfl, hb1⟩
      have HM := Lib.hid (((Sg11.new w 30 k o a b m l u p e t y).alloc (.cells #[.int .i64 0, .int .i64 0, .int .i64 0, .int .i64 0, .int .i64 0, .int .i64 0, .int .i64 0, .int .i64 0, .int .i64 0, .int .i64 0, .int .i64 0] 30) (by simp)).below hb1 (by simp; omega))
      have hr := (Sg11.new (w.alloc (.cells #[.int .i64 k, .int .i64 o, .int .i64 a, .int .i64 b, .int .i64 m, .int .i64 l, .int .i64 u, .int .i64 p, .int .i64 e, .int .i64 t, .int .i64 y] 30)) 30 0 0 0 0 0 0 0 0 0 0 0).below hb1 (by simp)
      rw [alloc_size] at hr
      have HR := Lib.hid hr
      have HB := Lib.hid ((((Below.refl w.heap.size w).alloc (Nat.le_refl _) (.cells #[.int .i64 k, .int .i64 o, .int .i64 a, .int .i64 b, .int .i64 m, .int .i64 l, .int .i64 u, .int .i64 p, .int .i64 e, .int .i64 t, .int .i64 y] 30)).alloc (by simp) (.cells #[.int .i64 0, .int .i64 0, .int .i64 0, .int .i64 0, .int .i64 0, .int .i64 0, .int .i64 0, .int .i64 0, .int .i64 0, .int .i64 0, .int .i64 0] 30)).trans (hb1.mono (by simp; omega)))
      obtain ⟨x0, x1, x2, x3, x4, x5, x6, x7, x8, x9, x10⟩ := HM.out.cells
      obtain ⟨f0, f1, f2, f3, f4, f5, f6, f7, f8, f9, f10⟩ := HR.out.loose
      obtain ⟨z0, z1, z2, z3, z4, z5, z6, z7, z8, z9, z10⟩ := HR.out.cells
      clear hb1 hr HRD
      go_wp2
      refine bodyPost_ret (results_cell_row (p := 4) (ty := 30) rfl _ _ (w.heap.size + 1) _ _ (0, 0) _ rfl (HR.out.put k o a b m l u p e t y) Try.underlying30 rfl (by kernel_rfl)) rfl ?_
      exact ⟨rfl, Sg11.put_below HB.out (Nat.le_succ _) k o a b m l u p e t y⟩
    · have hw : waitS ⟨⟨k, o, a, b, m, l, u⟩, p, e, t, y⟩ := ⟨hp, by dsimp only; omega⟩
      rw [decide_eq_false (show ¬ (p = 0 ∧ l ≤ e) from fun h => hl h.2)] at HRD
      cases ok
      · obtain ⟨x, hx⟩ : ∃ x, wrap64 (t + 1) = x := ⟨_, rfl⟩
        by_cases ht : 3 < x
        · have hE := legS_back hw (by dsimp only; rw [hx]; exact ht)
          (try dsimp only at hE)
          rw [hE]
          unfold Sg.val
          dsimp only
          rw [hx]
          have q3 := decide_eq_true ht
          have HTN := Lib.hid (turn_fwd ⟨⟨k, o, a, b, m, l, u⟩, p, e, x, y⟩ 9 hp)
          unfold SgRes Sg.val at HTN
          dsimp only at HTN
          clear hE hp hl hw ht
          go_enter Try.func10, Try.ntmps10
          go_wp2_with fail
          refine (HRD.out _).mono ?_
          rintro _ w1 ⟨rfl, hb1⟩
          have HM := Lib.hid (((Sg11.new w 30 k o a b m l u p e t y).alloc (.cells #[.int .i64 0, .int .i64 0, .int .i64 0, .int .i64 0, .int .i64 0, .int .i64 0, .int .i64 0, .int .i64 0, .int .i64 0, .int .i64 0, .int .i64 0] 30) (by simp)).below hb1 (by simp; omega))
          have hr := (Sg11.new (w.alloc (.cells #[.int .i64 k, .int .i64 o, .int .i64 a, .int .i64 b, .int .i64 m, .int .i64 l, .int .i64 u, .int .i64 p, .int .i64 e, .int .i64 t, .int .i64 y] 30)) 30 0 0 0 0 0 0 0 0 0 0 0).below hb1 (by simp)
          rw [alloc_size] at hr
          have HR := Lib.hid hr
          have HB := Lib.hid ((((Below.refl w.heap.size w).alloc (Nat.le_refl _) (.cells #[.int .i64 k, .int .i64 o, .int .i64 a, .int .i64 b, .int .i64 m, .int .i64 l, .int .i64 u, .int .i64 p, .int .i64 e, .int .i64 t, .int .i64 y] 30)).alloc (by simp) (.cells #[.int .i64 0, .int .i64 0, .int .i64 0, .int .i64 0, .int .i64 0, .int .i64 0, .int .i64 0, .int .i64 0, .int .i64 0, .int .i64 0, .int .i64 0] 30)).trans (hb1.mono (by simp; omega)))
          obtain ⟨x0, x1, x2, x3, x4, x5, x6, x7, x8, x9, x10⟩ := HM.out.cells
          obtain ⟨f0, f1, f2, f3, f4, f5, f6, f7, f8, f9, f10⟩ := HM.out.loose
          obtain ⟨y0, y1, y2, y3, y4, y5, y6, y7, y8, y9, y10⟩ := HR.out.loose
          obtain ⟨z0, z1, z2, z3, z4, z5, z6, z7, z8, z9, z10⟩ := HR.out.cells
          clear hb1 hr HRD
          go_wp2_with fail
          (try rw [hx])
          have hlt : w.heap.size + 1 < w1.heap.size := HR.out.lt
          have HR2 := Lib.hid (HR.out.setOther (b := w.heap.size) (by omega) 9 x)
          have HB2 := Lib.hid (HB.out.setCell (p := ⟨w.heap.size, 9, none⟩) (Nat.le_refl _) (.int .i64 x))
          clear x0 x1 x2 x3 x4 x5 x6 x7 x8 x9 x10 y0 y1 y2 y3 y4 y5 y6 y7 y8 y9 y10 f0 f1 f2 f3 f4 f5 f6 f7 f8 f9 f10 z0 z1 z2 z3 z4 z5 z6 z7 z8 z9 z10 HM HR HB
          generalize w1.setCell ⟨w.heap.size, 9, none⟩ (.int .i64 x) = w2 at HR2 HB2 ⊢
          refine (HTN.out _).mono ?_
          rintro _ w3 ⟨rfl, hb3⟩
          have HR3 := Lib.hid (HR2.out.below hb3 HR2.out.lt)
          have HB3 := Lib.hid (HB2.out.trans (hb3.mono HB2.out.size))
          obtain ⟨z0, z1, z2, z3, z4, z5, z6, z7, z8, z9, z10⟩ := HR3.out.cells
          obtain ⟨f0, f1, f2, f3, f4, f5, f6, f7, f8, f9, f10⟩ := HR3.out.loose
          clear hb3 HTN HR2 HB2
          go_wp2
          refine bodyPost_ret (results_cell_row (p := 4) (ty := 30) rfl _ _ (w.heap.size + 1) _ _ (0, 0) _ rfl (HR3.out.put k o a b m l u 1 e x 9) Try.underlying30 rfl (by kernel_rfl)) rfl ?_
          exact ⟨rfl, Sg11.put_below HB3.out (Nat.le_succ _) k o a b m l u 1 e x 9⟩
        · have hE := legS_no hw (by dsimp only; rw [hx]; exact ht)
          (try dsimp only at hE)
          rw [hE]
          unfold Sg.val
          dsimp only
          rw [hx]
          have q3 := decide_eq_false ht
          clear hE hp hl hw ht
          go_enter Try.func10, Try.ntmps10
          go_wp2_with fail
          refine (HRD.out _).mono ?_
          rintro _ w1 ⟨rfl, hb1⟩
          have HM := Lib.hid (((Sg11.new w 30 k o a b m l u p e t y).alloc (.cells #[.int .i64 0, .int .i64 0, .int .i64 0, .int .i64 0, .int .i64 0, .int .i64 0, .int .i64 0, .int .i64 0, .int .i64 0, .int .i64 0, .int .i64 0] 30) (by simp)).below hb1 (by simp; omega))
          have hr := (Sg11.new (w.alloc (.cells #[.int .i64 k, .int .i64 o, .int .i64 a, .int .i64 b, .int .i64 m, .int .i64 l, .int .i64 u, .int .i64 p, .int .i64 e, .int .i64 t, .int .i64 y] 30)) 30 0 0 0 0 0 0 0 0 0 0 0).below hb1 (by simp)
          rw [alloc_size] at hr
          have HR := Lib.hid hr
          have HB := Lib.hid ((((Below.refl w.heap.size w).alloc (Nat.le_refl _) (.cells #[.int .i64 k, .int .i64 o, .int .i64 a, .int .i64 b, .int .i64 m, .int .i64 l, .int .i64 u, .int .i64 p, .int .i64 e, .int .i64 t, .int .i64 y] 30)).alloc (by simp) (.cells #[.int .i64 0, .int .i64 0, .int .i64 0, .int .i64 0, .int .i64 0, .int .i64 0, .int .i64 0, .int .i64 0, .int .i64 0, .int .i64 0, .int .i64 0] 30)).trans (hb1.mono (by simp; omega)))
          obtain ⟨x0, x1, x2, x3, x4, x5, x6, x7, x8, x9, x10⟩ := HM.out.cells
          obtain ⟨f0, f1, f2, f3, f4, f5, f6, f7, f8, f9, f10⟩ := HM.out.loose
          obtain ⟨y0, y1, y2, y3, y4, y5, y6, y7, y8, y9, y10⟩ := HR.out.loose
          obtain ⟨z0, z1, z2, z3, z4, z5, z6, z7, z8, z9, z10⟩ := HR.out.cells
          clear hb1 hr HRD
          go_wp2
          (try rw [hx])
          have HR2 := Lib.hid (HR.out.setOther (b := w.heap.size) (by omega) 9 x)
          have HB2 := Lib.hid (HB.out.setCell (p := ⟨w.heap.size, 9, none⟩) (Nat.le_refl _) (.int .i64 x))
          refine bodyPost_ret (results_cell_row (p := 4) (ty := 30) rfl _ _ (w.heap.size + 1) _ _ (0, 0) _ rfl (HR2.out.put k o a b m l u p e x y) Try.underlying30 rfl (by kernel_rfl)) rfl ?_
          exact ⟨rfl, Sg11.put_below HB2.out (Nat.le_succ _) k o a b m l u p e x y⟩
      · obtain ⟨x, hx⟩ : ∃ x, wrap64 (e + 1) = x := ⟨_, rfl⟩
        have hE := legS_yes hw
        (try dsimp only at hE)
        rw [hE]
        unfold Sg.val
        dsimp only
        rw [hx]
        clear hE hp hl hw
        go_enter Try.func10, Try.ntmps10
        go_wp2_with fail
        refine (HRD.out _).mono ?_
        rintro _ w1 ⟨rfl, hb1⟩
        have HM := Lib.hid (((Sg11.new w 30 k o a b m l u p e t y).alloc (.cells #[.int .i64 0, .int .i64 0, .int .i64 0, .int .i64 0, .int .i64 0, .int .i64 0, .int .i64 0, .int .i64 0, .int .i64 0, .int .i64 0, .int .i64 0] 30) (by simp)).below hb1 (by simp; omega))
        have hr := (Sg11.new (w.alloc (.cells #[.int .i64 k, .int .i64 o, .int .i64 a, .int .i64 b, .int .i64 m, .int .i64 l, .int .i64 u, .int .i64 p, .int .i64 e, .int .i64 t, .int .i64 y] 30)) 30 0 0 0 0 0 0 0 0 0 0 0).below hb1 (by simp)
        rw [alloc_size] at hr
        have HR := Lib.hid hr
        have HB := Lib.hid ((((Below.refl w.heap.size w).alloc (Nat.le_refl _) (.cells #[.int .i64 k, .int .i64 o, .int .i64 a, .int .i64 b, .int .i64 m, .int .i64 l, .int .i64 u, .int .i64 p, .int .i64 e, .int .i64 t, .int .i64 y] 30)).alloc (by simp) (.cells #[.int .i64 0, .int .i64 0, .int .i64 0, .int .i64 0, .int .i64 0, .int .i64 0, .int .i64 0, .int .i64 0, .int .i64 0, .int .i64 0, .int .i64 0] 30)).trans (hb1.mono (by simp; omega)))
        obtain ⟨x0, x1, x2, x3, x4, x5, x6, x7, x8, x9, x10⟩ := HM.out.cells
        obtain ⟨f0, f1, f2, f3, f4, f5, f6, f7, f8, f9, f10⟩ := HM.out.loose
        obtain ⟨y0, y1, y2, y3, y4, y5, y6, y7, y8, y9, y10⟩ := HR.out.loose
        obtain ⟨z0, z1, z2, z3, z4, z5, z6, z7, z8, z9, z10⟩ := HR.out.cells
        clear hb1 hr HRD
        go_wp2
        (try rw [hx])
        have HR2 := Lib.hid ((HR.out.setOther (b := w.heap.size) (by omega) 8 x).setOther (b := w.heap.size) (by omega) 9 0)
        have HB2 := Lib.hid ((HB.out.setCell (p := ⟨w.heap.size, 8, none⟩) (Nat.le_refl _) (.int .i64 x)).setCell (p := ⟨w.heap.size, 9, none⟩) (Nat.le_refl _) (.int .i64 0))
        refine bodyPost_ret (results_cell_row (p := 4) (ty := 30) rfl _ _ (w.heap.size + 1) _ _ (0, 0) _ rfl (HR2.out.put k o a b m l u p x 0 y) Try.underlying30 rfl (by kernel_rfl)) rfl ?_
        exact ⟨rfl, Sg11.put_below HB2.out (Nat.le_succ _) k o a b m l u p x 0 y⟩
  · have q1 := neT hp
    have hE := legS_stay (s := ⟨⟨k, o, a, b, m, l, u⟩, p, e, t, y⟩) ok (fun h => hp h.1)
    rw [hE]
    unfold Sg.val
    dsimp only
    clear hE hp HRD
    go_enter Try.func10, Try.ntmps10
    go_wp2
    refine bodyPost_ret (results_cell_row (p := 4) (ty := 30) rfl _ _ (w.heap.size + 1) _ _ (0, 0) _ rfl (heap_alloc2_new w _ _) Try.underlying30 rfl (by kernel_rfl)) rfl ?_
    exact ⟨rfl, ((Below.refl _ _).alloc (Nat.le_refl _) _).alloc (by simp) _⟩
/-- How many legs are missing. -/
def missS (s : Sg) : Int := if s.leg < s.rq.legs then s.rq.legs - s.leg else 0

set_option maxRecDepth 100000 in
theorem smissing_any (s : Sg) (w : World) (h1 : 0 ≤ s.rq.legs) (h2 : s.rq.legs ≤ 4) (h3 : 0 ≤ s.leg) (h4 : s.leg ≤ 4) : Calls Try.prog 17 #[s.val] w fun e w' => e = .returned (.int .i64 (missS s)) ∧ Below w.heap.size w w' := by
  obtain ⟨⟨k, o, a, b, m, l, u⟩, p, e, t, y⟩ := s
  unfold missS Sg.val
  dsimp only at h1 h2 h3 h4 ⊢
  obtain ⟨d, hd⟩ : ∃ d, (if e < l then l - e else 0) = d := ⟨_, rfl⟩
  rw [hd]
  have e1 : wrap64 (l - e) = l - e := wr1 (by omega) (by omega)
  go_enter Try.func17, Try.ntmps17
  go_wp2
  all_goals
    go_ret
    refine ⟨?_, (Below.refl _ _).alloc (Nat.le_refl _) _⟩
    first
      | (show Ending.returned (Value.int .i64 (l - e)) = Ending.returned (Value.int .i64 d); rw [show d = l - e by split at hd <;> omega])
      | (show Ending.returned (Value.int .i64 0) = Ending.returned (Value.int .i64 d); rw [show d = 0 by split at hd <;> omega])

set_option maxRecDepth 100000 in
theorem smost_any (s : Sg) (w : World) (h1 : 0 ≤ s.rq.legs) (h2 : s.rq.legs ≤ 4) (h3 : 0 ≤ s.leg) (h4 : s.leg ≤ 4) (h5 : 0 ≤ s.tries) (h6 : s.tries ≤ 4) : Calls Try.prog 15 #[s.val] w fun e w' => e = .returned (.int .i64 (mostS s)) ∧ Below w.heap.size w w' := by
  have HM := Lib.hid (fun W : World => smissing_any s W h1 h2 h3 h4)
  obtain ⟨⟨k, o, a, b, m, l, u⟩, p, e, t, y⟩ := s
  unfold mostS missS Sg.val at *
  dsimp only at h1 h2 h3 h4 h5 h6 HM ⊢
  by_cases hp : p = 0
  · have q1 := eqT hp
    rw [if_pos hp]
    obtain ⟨d, hd⟩ : ∃ d, (if e < l then l - e else 0) = d := ⟨_, rfl⟩
    rw [hd] at HM ⊢
    have e2 : 0 ≤ d ∧ d ≤ 4 := by rw [← hd]; split <;> omega
    have e3 : wrap64 (4 * d) = 4 * d := wr1 (by omega) (by omega)
    have e4 : wrap64 (4 * d - t) = 4 * d - t := wr1 (by omega) (by omega)
    have e5 : wrap64 (4 * d - t + 2) = 4 * d - t + 2 := wr1 (by omega) (by omega)
    clear hp hd h1 h2 h3 h4 h5 h6 e2
    go_enter Try.func15, Try.ntmps15
    go_wp2
    obtain ⟨W, hW⟩ : ∃ W, W = w.alloc (.cells #[.int .i64 k, .int .i64 o, .int .i64 a, .int .i64 b, .int .i64 m, .int .i64 l, .int .i64 u, .int .i64 p, .int .i64 e, .int .i64 t, .int .i64 y] 30) := ⟨_, rfl⟩
    have HB := Lib.hid (show Below w.heap.size w W by rw [hW]; exact (Below.refl _ _).alloc (Nat.le_refl _) _)
    have HG := (Sg11.new w 30 k o a b m l u p e t y)
    rw [← hW] at HG
    (try rw [← hW])
    have HS := Lib.hid (fun p : After W => HG.below p.below HG.lt)
    have g := fun p : After W => (HS.out p).cells
    clear hW HG
    refine wp_region_after (by kernel_rfl) (by kernel_rfl) ?_
    repeat (go_big_quiet_step (first | (go_at_call 17; exact after_call _ (HM.out _))))
    refine wpQuiet_nil ?_
    intro _ hw'
    obtain ⟨p', rfl⟩ := hw'
    have HB6 := Lib.hid (HB.out.trans (p'.below.mono HB.out.size))
    clear g
    go_wp2
    go_ret
    refine ⟨?_, HB6.out⟩
    show Ending.returned (Value.int .i64 (wrap64 (4 * d - t + 2))) = _
    rw [e5]
  · have q1 := eqF hp
    rw [if_neg hp]
    by_cases hp1 : p = 1
    · have q2 := eqT hp1
      rw [if_pos hp1]
      clear hp hp1
      go_enter Try.func15, Try.ntmps15
      go_wp2
      go_ret
      exact ⟨rfl, (Below.refl _ _).alloc (Nat.le_refl _) _⟩
    · have q2 := eqF hp1
      rw [if_neg hp1]
      clear hp hp1
      go_enter Try.func15, Try.ntmps15
      go_wp2
      go_ret
      exact ⟨rfl, (Below.refl _ _).alloc (Nat.le_refl _) _⟩

theorem swithin_any (n a b : Int) (w : World) : Calls Try.prog 18 #[.int .i64 n, .int .i64 a, .int .i64 b] w fun e w' => e = .returned (.bool (decide (a ≤ n ∧ n ≤ b))) ∧ w = w' := by
  by_cases h1 : a ≤ n
  · by_cases h2 : n ≤ b
    · rw [decide_eq_true (show a ≤ n ∧ n ≤ b from ⟨h1, h2⟩)]
      go_enter Try.func18, Try.ntmps18
      go_wp2
      go_ret
      exact ⟨by first | rfl | simp [h2], rfl⟩
    · rw [decide_eq_false (show ¬ (a ≤ n ∧ n ≤ b) from fun h => h2 h.2)]
      have hd := decide_eq_false h2
      go_enter Try.func18, Try.ntmps18
      go_wp2
      go_ret
      exact ⟨by first | rfl | simp [h2], rfl⟩
  · rw [decide_eq_false (show ¬ (a ≤ n ∧ n ≤ b) from fun h => h1 h.1)]
    have hd := decide_eq_false h1
    go_enter Try.func18, Try.ntmps18
    go_wp2
    go_ret
    exact ⟨by first | rfl | simp [h1], rfl⟩

/-- How often the next leg may have refused. -/
def mtS (s : Sg) : Int := if missS s = 0 then 0 else 3
def rightPhS (s : Sg) : Prop := if s.ph = 0 then s.why = 0 ∧ s.tries ≤ mtS s else if s.ph = 1 then s.why ≠ 0 else False
instance (s : Sg) : Decidable (rightPhS s) := by unfold rightPhS; exact inferInstance
/-- Which sagas may be. -/
def rightSg (s : Sg) : Prop := (0 ≤ s.rq.legs ∧ s.rq.legs ≤ 4) ∧ (0 ≤ s.leg ∧ s.leg ≤ s.rq.legs) ∧ (0 ≤ s.tries ∧ s.tries ≤ 4) ∧ rightPhS s
instance (s : Sg) : Decidable (rightSg s) := by unfold rightSg; exact inferInstance

set_option maxRecDepth 100000 in
theorem smostTries_any (s : Sg) (w : World) (h1 : 0 ≤ s.rq.legs) (h2 : s.rq.legs ≤ 4) (h3 : 0 ≤ s.leg) (h4 : s.leg ≤ 4) : Calls Try.prog 20 #[s.val] w fun e w' => e = .returned (.int .i64 (mtS s)) ∧ Below w.heap.size w w' := by
  have HM := Lib.hid (fun W : World => smissing_any s W h1 h2 h3 h4)
  unfold mtS
  obtain ⟨x, hx⟩ : ∃ x, missS s = x := ⟨_, rfl⟩
  rw [hx] at HM ⊢
  obtain ⟨⟨k, o, a, b, m, l, u⟩, p, e, t, y⟩ := s
  unfold Sg.val at *
  dsimp only at HM ⊢
  clear hx h1 h2 h3 h4
  by_cases h0 : x = 0
  · have q1 := eqT h0
    rw [if_pos h0]
    clear h0
    go_enter Try.func20, Try.ntmps20
    go_wp2_with fail
    refine (HM.out _).mono ?_
    rintro _ w1 ⟨rfl, hb1⟩
    go_wp2
    go_ret
    exact ⟨rfl, ((Below.refl _ _).alloc (Nat.le_refl _) _).trans (hb1.mono (by simp))⟩
  · have q1 := eqF h0
    rw [if_neg h0]
    clear h0
    go_enter Try.func20, Try.ntmps20
    go_wp2_with fail
    refine (HM.out _).mono ?_
    rintro _ w1 ⟨rfl, hb1⟩
    go_wp2
    go_ret
    exact ⟨rfl, ((Below.refl _ _).alloc (Nat.le_refl _) _).trans (hb1.mono (by simp))⟩

set_option maxRecDepth 100000 in
theorem srightPhase_any (s : Sg) (w : World) (h1 : 0 ≤ s.rq.legs) (h2 : s.rq.legs ≤ 4) (h3 : 0 ≤ s.leg) (h4 : s.leg ≤ 4) : Calls Try.prog 19 #[s.val] w (BoolRes w (decide (rightPhS s))) := by
  have HM := Lib.hid (fun W : World => smostTries_any s W h1 h2 h3 h4)
  unfold BoolRes rightPhS
  obtain ⟨x, hx⟩ : ∃ x, mtS s = x := ⟨_, rfl⟩
  rw [hx] at HM
  simp only [hx]
  obtain ⟨⟨k, o, a, b, m, l, u⟩, p, e, t, y⟩ := s
  unfold Sg.val at *
  dsimp only at HM ⊢
  clear hx h1 h2 h3 h4
  by_cases hp : p = 0
  · have q1 := eqT hp
    simp only [if_pos hp]
    clear hp
    by_cases hy : y = 0
    · have q2 := eqT hy
      have e1 : decide (y = 0 ∧ t ≤ x) = decide (t ≤ x) := by simp [hy]
      rw [e1]
      clear hy e1
      go_enter Try.func19, Try.ntmps19
      go_wp2
      obtain ⟨W, hW⟩ : ∃ W, W = w.alloc (.cells #[.int .i64 k, .int .i64 o, .int .i64 a, .int .i64 b, .int .i64 m, .int .i64 l, .int .i64 u, .int .i64 p, .int .i64 e, .int .i64 t, .int .i64 y] 30) := ⟨_, rfl⟩
      have HB := Lib.hid (show Below w.heap.size w W by rw [hW]; exact (Below.refl _ _).alloc (Nat.le_refl _) _)
      have HG := (Sg11.new w 30 k o a b m l u p e t y)
      rw [← hW] at HG
      (try rw [← hW])
      have HS := Lib.hid (fun p : After W => HG.below p.below HG.lt)
      have g := fun p : After W => (HS.out p).cells
      clear hW HG
      refine wp_region_after (by kernel_rfl) (by kernel_rfl) ?_
      repeat (go_big_quiet_step (first | (go_at_call 20; exact after_call _ (HM.out _))))
      refine wpQuiet_nil ?_
      intro _ hw'
      obtain ⟨p', rfl⟩ := hw'
      have HB6 := Lib.hid (HB.out.trans (p'.below.mono HB.out.size))
      clear g
      go_wp2
      go_ret
      exact ⟨rfl, HB6.out⟩
    · have q2 := eqF hy
      have e1 : decide (y = 0 ∧ t ≤ x) = false := decide_eq_false (fun h => hy h.1)
      rw [e1]
      clear hy e1
      go_enter Try.func19, Try.ntmps19
      go_wp2
      go_quiet (fail)
      go_wp2
      go_ret
      exact ⟨rfl, below_drewN ((Below.refl _ _).alloc (Nat.le_refl _) _) _⟩
  · have q1 := eqF hp
    simp only [if_neg hp]
    clear hp
    by_cases hp1 : p = 1
    · have q2 := eqT hp1
      simp only [if_pos hp1]
      clear hp1
      by_cases hy : y = 0
      · have q3 := neF hy
        rw [decide_eq_false (show ¬ ¬ y = 0 from fun h => h hy)]
        clear hy
        go_enter Try.func19, Try.ntmps19
        go_wp2
        go_ret
        exact ⟨rfl, (Below.refl _ _).alloc (Nat.le_refl _) _⟩
      · have q3 := neT hy
        rw [decide_eq_true (show ¬ y = 0 from hy)]
        clear hy
        go_enter Try.func19, Try.ntmps19
        go_wp2
        go_ret
        exact ⟨rfl, (Below.refl _ _).alloc (Nat.le_refl _) _⟩
    · have q2 := eqF hp1
      simp only [if_neg hp1, decide_false]
      clear hp1
      go_enter Try.func19, Try.ntmps19
      go_wp2
      go_ret
      exact ⟨rfl, (Below.refl _ _).alloc (Nat.le_refl _) _⟩

set_option maxRecDepth 100000 in
theorem sright_any (s : Sg) (w : World) : Calls Try.prog 16 #[s.val] w (BoolRes w (decide (rightSg s))) := by
  have HP := Lib.hid (fun (W : World) (h : (0 ≤ s.rq.legs ∧ s.rq.legs ≤ 4) ∧ (0 ≤ s.leg ∧ s.leg ≤ s.rq.legs)) => srightPhase_any s W h.1.1 h.1.2 h.2.1 (by omega))
  unfold BoolRes at *
  by_cases h1 : 0 ≤ s.rq.legs ∧ s.rq.legs ≤ 4
  · have q1 := decide_eq_true h1
    by_cases h2 : 0 ≤ s.leg ∧ s.leg ≤ s.rq.legs
    · have q2 := decide_eq_true h2
      by_cases h3 : 0 ≤ s.tries ∧ s.tries ≤ 4
      · have q3 := decide_eq_true h3
        have e1 : decide (rightSg s) = decide (rightPhS s) := decide_eq_decide.mpr ⟨fun h => h.2.2.2, fun h => ⟨h1, h2, h3, h⟩⟩
        rw [e1]
        have HQ := Lib.hid (fun W : World => HP.out W ⟨h1, h2⟩)
        obtain ⟨x, hx⟩ : ∃ x, decide (rightPhS s) = x := ⟨_, rfl⟩
        rw [hx] at HQ ⊢
        have HW1 := Lib.hid (fun W : World => swithin_any s.rq.legs 0 4 W)
        have HW2 := Lib.hid (fun W : World => swithin_any s.leg 0 s.rq.legs W)
        have HW3 := Lib.hid (fun W : World => swithin_any s.tries 0 4 W)
        rw [q1] at HW1
        rw [q2] at HW2
        rw [q3] at HW3
        clear HP e1 hx q1 q2 q3 h1 h2 h3
        obtain ⟨⟨k, o, a, b, m, l, u⟩, p, e, t, y⟩ := s
        unfold Sg.val at *
        dsimp only at HQ HW1 HW2 HW3 ⊢
        go_enter Try.func16, Try.ntmps16
        go_wp2_with fail
        refine (HW1.out _).mono ?_
        rintro _ w1 ⟨rfl, rfl⟩
        go_wp2_with fail
        refine (HW2.out _).mono ?_
        rintro _ w1 ⟨rfl, rfl⟩
        go_wp2_with fail
        refine (HW3.out _).mono ?_
        rintro _ w1 ⟨rfl, rfl⟩
        go_wp2_with fail
        refine (HQ.out _).mono ?_
        rintro _ w1 ⟨rfl, hb1⟩
        go_wp2
        go_ret
        exact ⟨rfl, ((Below.refl _ _).alloc (Nat.le_refl _) _).trans (hb1.mono (by simp))⟩
      · have q3 := decide_eq_false h3
        rw [decide_eq_false (show ¬ rightSg s from fun h => h3 h.2.2.1)]
        have HW1 := Lib.hid (fun W : World => swithin_any s.rq.legs 0 4 W)
        have HW2 := Lib.hid (fun W : World => swithin_any s.leg 0 s.rq.legs W)
        have HW3 := Lib.hid (fun W : World => swithin_any s.tries 0 4 W)
        rw [q1] at HW1
        rw [q2] at HW2
        rw [q3] at HW3
        clear HP q1 q2 q3 h1 h2 h3
        obtain ⟨⟨k, o, a, b, m, l, u⟩, p, e, t, y⟩ := s
        unfold Sg.val at *
        dsimp only at HW1 HW2 HW3 ⊢
        go_enter Try.func16, Try.ntmps16
        go_wp2_with fail
        refine (HW1.out _).mono ?_
        rintro _ w1 ⟨rfl, rfl⟩
        go_wp2_with fail
        refine (HW2.out _).mono ?_
        rintro _ w1 ⟨rfl, rfl⟩
        go_wp2_with fail
        refine (HW3.out _).mono ?_
        rintro _ w1 ⟨rfl, rfl⟩
        go_wp2
        go_ret
        exact ⟨rfl, (Below.refl _ _).alloc (Nat.le_refl _) _⟩
    · have q2 := decide_eq_false h2
      rw [decide_eq_false (show ¬ rightSg s from fun h => h2 h.2.1)]
      have HW1 := Lib.hid (fun W : World => swithin_any s.rq.legs 0 4 W)
      have HW2 := Lib.hid (fun W : World => swithin_any s.leg 0 s.rq.legs W)
      rw [q1] at HW1
      rw [q2] at HW2
      clear HP q1 q2 h1 h2
      obtain ⟨⟨k, o, a, b, m, l, u⟩, p, e, t, y⟩ := s
      unfold Sg.val at *
      dsimp only at HW1 HW2 ⊢
      go_enter Try.func16, Try.ntmps16
      go_wp2_with fail
      refine (HW1.out _).mono ?_
      rintro _ w1 ⟨rfl, rfl⟩
      go_wp2_with fail
      refine (HW2.out _).mono ?_
      rintro _ w1 ⟨rfl, rfl⟩
      go_wp2
      go_ret
      exact ⟨rfl, (Below.refl _ _).alloc (Nat.le_refl _) _⟩
  · have q1 := decide_eq_false h1
    rw [decide_eq_false (show ¬ rightSg s from fun h => h1 h.1)]
    have HW1 := Lib.hid (fun W : World => swithin_any s.rq.legs 0 4 W)
    rw [q1] at HW1
    clear HP q1 h1
    obtain ⟨⟨k, o, a, b, m, l, u⟩, p, e, t, y⟩ := s
    unfold Sg.val at *
    dsimp only at HW1 ⊢
    go_enter Try.func16, Try.ntmps16
    go_wp2_with fail
    refine (HW1.out _).mono ?_
    rintro _ w1 ⟨rfl, rfl⟩
    go_wp2
    go_ret
    exact ⟨rfl, (Below.refl _ _).alloc (Nat.le_refl _) _⟩

theorem sright_back (s : Sg) (w : World) (h0 : s.ph = 1) (h1 : 0 ≤ s.rq.legs) (h2 : s.rq.legs ≤ 4) (h3 : 0 ≤ s.leg) (h4 : s.leg ≤ s.rq.legs) (h5 : 0 ≤ s.tries) (h6 : s.tries ≤ 4) (h7 : s.why ≠ 0) : Calls Try.prog 16 #[s.val] w (BoolRes w true) := by
  have h := sright_any s w
  rwa [decide_eq_true (show rightSg s from ⟨⟨h1, h2⟩, ⟨h3, h4⟩, ⟨h5, h6⟩, by unfold rightPhS; rw [if_neg (by omega), if_pos h0]; exact h7⟩)] at h

theorem saga_fns : SagaFns where
  begin_ := sbegin_any
  ready := sready_any
  leg := sleg_any
  turn := sturn_any
  end_ := send_any
  most := smost_any
  right := sright_back
end Go.Proofs.Ytdcghnoioecglaa
