/-
  What saga.Right answers.
-/
import Derived.Test.YteifgmdaggiaaaaGreatDoorQSagaRt
import Derived.Test.YteifgmdaggiaaaaGreatDoorQGrN
import Derived.Test.YteifgmdaggiaaaaGreatDoorQGrA
import Derived.Deep.QuietTactic
import Derived.Lib.Hide
import Derived.LoopTactic
import Derived.IntWalk
import Derived.WalkSpells
namespace Go.Proofs.YteifgmdaggiaaaaGreatDoor
open Go Go.RowKit
set_option linter.unusedVariables false
set_option maxRecDepth 100000 in
theorem smissing_any (s : Sg) (w : World) (h1 : 0 ≤ s.rq.legs) (h2 : s.rq.legs ≤ 4) (h3 : 0 ≤ s.leg) (h4 : s.leg ≤ 4) : Calls Tryz.prog 119 #[s.val] w fun e w' => e = .returned (.int .i64 (missS s)) ∧ Below w.heap.size w w' := by
 obtain ⟨⟨k, o, a, b, m, l, u⟩, p, e, t, y⟩ := s
 unfold missS Sg.val
 dsimp only at h1 h2 h3 h4 ⊢
 obtain ⟨d, hd⟩ : ∃ d, (if e < l then l - e else 0) = d := ⟨_, rfl⟩
 rw [hd]
 have e1 : wrap64 (l - e) = l - e := wr1 (by omega) (by omega)
 go_enter Tryz.func119, Tryz.ntmps119
 go_wp2
 all_goals
  go_ret
  refine ⟨?_, (Below.refl _ _).alloc (Nat.le_refl _) _⟩
  first
   | (show Ending.returned (Value.int .i64 (l - e)) = Ending.returned (Value.int .i64 d); rw [show d = l - e by split at hd <;> omega])
   | (show Ending.returned (Value.int .i64 0) = Ending.returned (Value.int .i64 d); rw [show d = 0 by split at hd <;> omega])
theorem swithin_any (n a b : Int) (w : World) : Calls Tryz.prog 49 #[.int .i64 n, .int .i64 a, .int .i64 b] w fun e w' => e = .returned (.bool (decide (a ≤ n ∧ n ≤ b))) ∧ w = w' := by
 by_cases h1 : a ≤ n
 · by_cases h2 : n ≤ b
   · rw [decide_eq_true (show a ≤ n ∧ n ≤ b from ⟨h1, h2⟩)]
     go_enter Tryz.func49, Tryz.ntmps49
     go_wp2
     go_ret
     exact ⟨by first | rfl | simp [h2], rfl⟩
   · rw [decide_eq_false (show ¬ (a ≤ n ∧ n ≤ b) from fun h => h2 h.2)]
     have hd := decide_eq_false h2
     go_enter Tryz.func49, Tryz.ntmps49
     go_wp2
     go_ret
     exact ⟨by first | rfl | simp [h2], rfl⟩
 · rw [decide_eq_false (show ¬ (a ≤ n ∧ n ≤ b) from fun h => h1 h.1)]
   have hd := decide_eq_false h1
   go_enter Tryz.func49, Tryz.ntmps49
   go_wp2
   go_ret
   exact ⟨by first | rfl | simp [h1], rfl⟩
set_option maxRecDepth 100000 in
theorem smostTries_any (s : Sg) (w : World) (h1 : 0 ≤ s.rq.legs) (h2 : s.rq.legs ≤ 4) (h3 : 0 ≤ s.leg) (h4 : s.leg ≤ 4) : Calls Tryz.prog 85 #[s.val] w fun e w' => e = .returned (.int .i64 (mtS s)) ∧ Below w.heap.size w w' := by
 have HM := Lib.hid (fun W : World => smissing_any s W h1 h2 h3 h4)
 unfold mtS
 obtain ⟨x, hx⟩ : ∃ x, missS s = x := ⟨_, rfl⟩
 rw [hx] at HM ⊢
 obtain ⟨⟨k, o, a, b, m, l, u⟩, p, e, t, y⟩ := s
 unfold Sg.val at *
 dsimp only at HM ⊢
 clear hx h1 h2 h3 h4
 by_cases h0 : x = 0
 · have q1 := eqT h0
   rw [if_pos h0]
   clear h0
   go_enter Tryz.func85, Tryz.ntmps85
   go_wp2_with fail
   refine (HM.out _).mono ?_
   rintro _ w1 ⟨rfl, hb1⟩
   go_wp2
   go_ret
   exact ⟨rfl, ((Below.refl _ _).alloc (Nat.le_refl _) _).trans (hb1.mono (by simp))⟩
 · have q1 := eqF h0
   rw [if_neg h0]
   clear h0
   go_enter Tryz.func85, Tryz.ntmps85
   go_wp2_with fail
   refine (HM.out _).mono ?_
   rintro _ w1 ⟨rfl, hb1⟩
   go_wp2
   go_ret
   exact ⟨rfl, ((Below.refl _ _).alloc (Nat.le_refl _) _).trans (hb1.mono (by simp))⟩
set_option maxRecDepth 100000 in
theorem srightPhase_any (s : Sg) (w : World) (h1 : 0 ≤ s.rq.legs) (h2 : s.rq.legs ≤ 4) (h3 : 0 ≤ s.leg) (h4 : s.leg ≤ 4) : Calls Tryz.prog 50 #[s.val] w (BoolRes w (decide (rightPhS s))) := by
 have HM := Lib.hid (fun W : World => smostTries_any s W h1 h2 h3 h4)
 unfold BoolRes rightPhS
 obtain ⟨x, hx⟩ : ∃ x, mtS s = x := ⟨_, rfl⟩
 rw [hx] at HM
 simp only [hx]
 obtain ⟨⟨k, o, a, b, m, l, u⟩, p, e, t, y⟩ := s
 unfold Sg.val at *
 dsimp only at HM ⊢
 clear hx h1 h2 h3 h4
 by_cases hp : p = 0
 · have q1 := eqT hp
   simp only [if_pos hp]
   clear hp
   by_cases hy : y = 0
   · have q2 := eqT hy
     have e1 : decide (y = 0 ∧ t ≤ x) = decide (t ≤ x) := by simp [hy]
     rw [e1]
     clear hy e1
     go_enter Tryz.func50, Tryz.ntmps50
     go_wp2
     obtain ⟨W, hW⟩ : ∃ W, W = w.alloc (.cells #[.int .i64 k, .int .i64 o, .int .i64 a, .int .i64 b, .int .i64 m, .int .i64 l, .int .i64 u, .int .i64 p, .int .i64 e, .int .i64 t, .int .i64 y] 68) := ⟨_, rfl⟩
     have HB := Lib.hid (show Below w.heap.size w W by rw [hW]; exact (Below.refl _ _).alloc (Nat.le_refl _) _)
     have HG := (Sg11.new w 68 k o a b m l u p e t y)
     rw [← hW] at HG
     (try rw [← hW])
     have HS := Lib.hid (fun p : After W => HG.below p.below HG.lt)
     have g := fun p : After W => (HS.out p).cells
     clear hW HG
     refine wp_region_after (by kernel_rfl) (by kernel_rfl) ?_
     repeat (go_big_quiet_step (first | (go_at_call 85; exact after_call _ (HM.out _))))
     refine wpQuiet_nil ?_
     intro _ hw'
     obtain ⟨p', rfl⟩ := hw'
     have HB6 := Lib.hid (HB.out.trans (p'.below.mono HB.out.size))
     clear g
     go_wp2
     go_ret
     exact ⟨rfl, HB6.out⟩
   · have q2 := eqF hy
     have e1 : decide (y = 0 ∧ t ≤ x) = false := decide_eq_false (fun h => hy h.1)
     rw [e1]
     clear hy e1
     go_enter Tryz.func50, Tryz.ntmps50
     go_wp2
     go_quiet (fail)
     go_wp2
     go_ret
     exact ⟨rfl, below_drewN ((Below.refl _ _).alloc (Nat.le_refl _) _) _⟩
 · have q1 := eqF hp
   simp only [if_neg hp]
   clear hp
   by_cases hp1 : p = 1
   · have q2 := eqT hp1
     simp only [if_pos hp1]
     clear hp1
     by_cases hy : y = 0
     · have q3 := neF hy
       rw [decide_eq_false (show ¬ ¬ y = 0 from fun h => h hy)]
       clear hy
       go_enter Tryz.func50, Tryz.ntmps50
       go_wp2
       go_ret
       exact ⟨rfl, (Below.refl _ _).alloc (Nat.le_refl _) _⟩
     · have q3 := neT hy
       rw [decide_eq_true (show ¬ y = 0 from hy)]
       clear hy
       go_enter Tryz.func50, Tryz.ntmps50
       go_wp2
       go_ret
       exact ⟨rfl, (Below.refl _ _).alloc (Nat.le_refl _) _⟩
   · have q2 := eqF hp1
     simp only [if_neg hp1, decide_false]
     clear hp1
     go_enter Tryz.func50, Tryz.ntmps50
     go_wp2
     go_ret
     exact ⟨rfl, (Below.refl _ _).alloc (Nat.le_refl _) _⟩
set_option maxRecDepth 100000 in
theorem sright_any (s : Sg) (w : World) : Calls Tryz.prog 21 #[s.val] w (BoolRes w (decide (rightSg s))) := by
 have HP := Lib.hid (fun (W : World) (h : (0 ≤ s.rq.legs ∧ s.rq.legs ≤ 4) ∧ (0 ≤ s.leg ∧ s.leg ≤ s.rq.legs)) => srightPhase_any s W h.1.1 h.1.2 h.2.1 (by omega))
 unfold BoolRes at *
 by_cases h1 : 0 ≤ s.rq.legs ∧ s.rq.legs ≤ 4
 · have q1 := decide_eq_true h1
   by_cases h2 : 0 ≤ s.leg ∧ s.leg ≤ s.rq.legs
   · have q2 := decide_eq_true h2
     by_cases h3 : 0 ≤ s.tries ∧ s.tries ≤ 4
     · have q3 := decide_eq_true h3
       have e1 : decide (rightSg s) = decide (rightPhS s) := decide_eq_decide.mpr ⟨fun h => h.2.2.2, fun h => ⟨h1, h2, h3, h⟩⟩
       rw [e1]
       have HQ := Lib.hid (fun W : World => HP.out W ⟨h1, h2⟩)
       obtain ⟨x, hx⟩ : ∃ x, decide (rightPhS s) = x := ⟨_, rfl⟩
       rw [hx] at HQ ⊢
       have HW1 := Lib.hid (fun W : World => swithin_any s.rq.legs 0 4 W)
       have HW2 := Lib.hid (fun W : World => swithin_any s.leg 0 s.rq.legs W)
       have HW3 := Lib.hid (fun W : World => swithin_any s.tries 0 4 W)
       rw [q1] at HW1
       rw [q2] at HW2
       rw [q3] at HW3
       clear HP e1 hx q1 q2 q3 h1 h2 h3
       obtain ⟨⟨k, o, a, b, m, l, u⟩, p, e, t, y⟩ := s
       unfold Sg.val at *
       dsimp only at HQ HW1 HW2 HW3 ⊢
       go_enter Tryz.func21, Tryz.ntmps21
       go_wp2_with fail
       refine (HW1.out _).mono ?_
       rintro _ w1 ⟨rfl, rfl⟩
       go_wp2_with fail
       refine (HW2.out _).mono ?_
       rintro _ w1 ⟨rfl, rfl⟩
       go_wp2_with fail
       refine (HW3.out _).mono ?_
       rintro _ w1 ⟨rfl, rfl⟩
       go_wp2_with fail
       refine (HQ.out _).mono ?_
       rintro _ w1 ⟨rfl, hb1⟩
       go_wp2
       go_ret
       exact ⟨rfl, ((Below.refl _ _).alloc (Nat.le_refl _) _).trans (hb1.mono (by simp))⟩
     · have q3 := decide_eq_false h3
       rw [decide_eq_false (show ¬ rightSg s from fun h => h3 h.2.2.1)]
       have HW1 := Lib.hid (fun W : World => swithin_any s.rq.legs 0 4 W)
       have HW2 := Lib.hid (fun W : World => swithin_any s.leg 0 s.rq.legs W)
       have HW3 := Lib.hid (fun W : World => swithin_any s.tries 0 4 W)
       rw [q1] at HW1
       rw [q2] at HW2
       rw [q3] at HW3
       clear HP q1 q2 q3 h1 h2 h3
       obtain ⟨⟨k, o, a, b, m, l, u⟩, p, e, t, y⟩ := s
       unfold Sg.val at *
       dsimp only at HW1 HW2 HW3 ⊢
       go_enter Tryz.func21, Tryz.ntmps21
       go_wp2_with fail
       refine (HW1.out _).mono ?_
       rintro _ w1 ⟨rfl, rfl⟩
       go_wp2_with fail
       refine (HW2.out _).mono ?_
       rintro _ w1 ⟨rfl, rfl⟩
       go_wp2_with fail
       refine (HW3.out _).mono ?_
       rintro _ w1 ⟨rfl, rfl⟩
       go_wp2
       go_ret
       exact ⟨rfl, (Below.refl _ _).alloc (Nat.le_refl _) _⟩
   · have q2 := decide_eq_false h2
     rw [decide_eq_false (show ¬ rightSg s from fun h => h2 h.2.1)]
     have HW1 := Lib.hid (fun W : World => swithin_any s.rq.legs 0 4 W)
     have HW2 := Lib.hid (fun W : World => swithin_any s.leg 0 s.rq.legs W)
     rw [q1] at HW1
     rw [q2] at HW2
     clear HP q1 q2 h1 h2
     obtain ⟨⟨k, o, a, b, m, l, u⟩, p, e, t, y⟩ := s
     unfold Sg.val at *
     dsimp only at HW1 HW2 ⊢
     go_enter Tryz.func21, Tryz.ntmps21
     go_wp2_with fail
     refine (HW1.out _).mono ?_
     rintro _ w1 ⟨rfl, rfl⟩
     go_wp2_with fail
     refine (HW2.out _).mono ?_
     rintro _ w1 ⟨rfl, rfl⟩
     go_wp2
     go_ret
     exact ⟨rfl, (Below.refl _ _).alloc (Nat.le_refl _) _⟩
 · have q1 := decide_eq_false h1
   rw [decide_eq_false (show ¬ rightSg s from fun h => h1 h.1)]
   have HW1 := Lib.hid (fun W : World => swithin_any s.rq.legs 0 4 W)
   rw [q1] at HW1
   clear HP q1 h1
   obtain ⟨⟨k, o, a, b, m, l, u⟩, p, e, t, y⟩ := s
   unfold Sg.val at *
   dsimp only at HW1 ⊢
   go_enter Tryz.func21, Tryz.ntmps21
   go_wp2_with fail
   refine (HW1.out _).mono ?_
   rintro _ w1 ⟨rfl, rfl⟩
   go_wp2
   go_ret
   exact ⟨rfl, (Below.refl _ _).alloc (Nat.le_refl _) _⟩
end Go.Proofs.YteifgmdaggiaaaaGreatDoor
