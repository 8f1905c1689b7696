/-
  The program's authorise, over a state that is being changed, by its contract.
-/
import Derived.Test.YteifgmdaggiaaaaGreatDoorWGrF
import Derived.Deep.AppendLies
set_option linter.unusedSimpArgs false
namespace Go.Proofs.YteifgmdaggiaaaaGreatDoor
open Go Go.RowKit
set_option linter.unusedVariables false
set_option maxRecDepth 100000 in
set_option maxHeartbeats 2000000 in
theorem oauth_no (F : Nat → Prop) (g : Nat) (va vp X Y : Value) (s : St) (r : Rq) (w : World) (h : Dr F w g va vp X Y s) (hrt : rightB s.acs = true) (hp64 : s.pys.length ≤ 2000000) (hc : ¬ (isC s.acs.length r.a ∧ isC s.acs.length r.b)) :
  Calls Tryz.prog 134 #[.pointer (some ⟨g, 0, none⟩), r.val] w (DrI F w g X Y s 0 2) := by
 obtain ⟨zs, ps, now⟩ := s
 obtain ⟨k, o, a, b, m, l, u⟩ := r
 obtain ⟨A, cap, rfl, hr, _, _, hnil⟩ := h.oa.form
 obtain ⟨B, d, rfl, hrp, _, _, hpnil⟩ := h.op.form
 have hlen := right_len hrt
 dsimp only at *
 obtain ⟨n, hn⟩ : ∃ n, zs.length = n := ⟨_, rfl⟩
 obtain ⟨q, hq⟩ : ∃ q, ps.length = q := ⟨_, rfl⟩
 simp only [hn, hq] at hc hp64 h hlen hnil hpnil ⊢
 have HD1 := Lib.hid (h.alloc (.cells (rqC k o a b m l u) 42))
 have HR1 := Lib.hid (Blk.new w 42 (rqC k o a b m l u))
 have HO1 := Lib.hid (h.on ((Below.refl _ _).alloc (Nat.le_refl _) (.cells (rqC k o a b m l u) 42)))
 have HRT := Lib.hid hrt
 have HN := Lib.hid hn
 have HQ := Lib.hid hq
 have HNIL := Lib.hid hnil
 unfold Rq.val
 dsimp only
 clear h hr hrp hnil hpnil hn hq hrt
 go_enter Tryz.func134, Tryz.ntmps134
 go_upto_region 1 with fail
 generalize w.alloc (.cells (rqC k o a b m l u) 42) = w1 at HD1 HR1 HO1 ⊢
 have c0 := HD1.out.blk.cell 0 rfl
 have c1 := HD1.out.blk.cell 1 rfl
 have c4 := HD1.out.blk.cell 4 rfl
 have r2 := HR1.out.cell 2 rfl
 have r3 := HR1.out.cell 3 rfl
 have r4 := HR1.out.cell 4 rfl
 have r6 := HR1.out.cell 6 rfl
 have qc := decide_eq_false hc
 clear hc
 have HC := Lib.hid (fun W => areClients_any A n cap a b W)
 rw [qc] at HC
 clear qc
 go_wp2
 go_quiet (first | (go_at_call 140; exact quiet_same (HC.out _)))
 have HD2 := Lib.hid (HD1.out.drewN nq)
 have HR2 := Lib.hid (HR1.out.drewN nq)
 have HO2 := Lib.hid (HO1.out.drewN nq)
 clear c0 c1 c4 r2 r3 r4 r6
 generalize w1.drewN nq = w2 at HD2 HR2 HO2 ⊢
 have c0 := HD2.out.blk.cell 0 rfl
 have c1 := HD2.out.blk.cell 1 rfl
 have c4 := HD2.out.blk.cell 4 rfl
 have r2 := HR2.out.cell 2 rfl
 have r3 := HR2.out.cell 3 rfl
 have r4 := HR2.out.cell 4 rfl
 have r6 := HR2.out.cell 6 rfl
 go_wp2
 go_ret2
 exact drI_no (by omega) HD2.out HO2.out
set_option maxRecDepth 100000 in
set_option maxHeartbeats 2000000 in
theorem oauth_same (F : Nat → Prop) (g : Nat) (va vp X Y : Value) (s : St) (r : Rq) (w : World) (h : Dr F w g va vp X Y s) (hrt : rightB s.acs = true) (hp64 : s.pys.length ≤ 2000000) (hc : isC s.acs.length r.a ∧ isC s.acs.length r.b) (he : r.a = r.b) :
  Calls Tryz.prog 134 #[.pointer (some ⟨g, 0, none⟩), r.val] w (DrI F w g X Y s 0 1) := by
 obtain ⟨zs, ps, now⟩ := s
 obtain ⟨k, o, a, b, m, l, u⟩ := r
 obtain ⟨A, cap, rfl, hr, _, _, hnil⟩ := h.oa.form
 obtain ⟨B, d, rfl, hrp, _, _, hpnil⟩ := h.op.form
 have hlen := right_len hrt
 dsimp only at *
 subst he
 obtain ⟨n, hn⟩ : ∃ n, zs.length = n := ⟨_, rfl⟩
 obtain ⟨q, hq⟩ : ∃ q, ps.length = q := ⟨_, rfl⟩
 simp only [hn, hq] at hc hp64 h hlen hnil hpnil ⊢
 have HD1 := Lib.hid (h.alloc (.cells (rqC k o a a m l u) 42))
 have HR1 := Lib.hid (Blk.new w 42 (rqC k o a a m l u))
 have HO1 := Lib.hid (h.on ((Below.refl _ _).alloc (Nat.le_refl _) (.cells (rqC k o a a m l u) 42)))
 have HRT := Lib.hid hrt
 have HN := Lib.hid hn
 have HQ := Lib.hid hq
 have HNIL := Lib.hid hnil
 unfold Rq.val
 dsimp only
 clear h hr hrp hnil hpnil hn hq hrt
 go_enter Tryz.func134, Tryz.ntmps134
 go_upto_region 1 with fail
 generalize w.alloc (.cells (rqC k o a a m l u) 42) = w1 at HD1 HR1 HO1 ⊢
 have c0 := HD1.out.blk.cell 0 rfl
 have c1 := HD1.out.blk.cell 1 rfl
 have c4 := HD1.out.blk.cell 4 rfl
 have r2 := HR1.out.cell 2 rfl
 have r3 := HR1.out.cell 3 rfl
 have r4 := HR1.out.cell 4 rfl
 have r6 := HR1.out.cell 6 rfl
 have qc := decide_eq_true hc
 clear hc
 have HC := Lib.hid (fun W => areClients_any A n cap a a W)
 rw [qc] at HC
 clear qc
 go_wp2
 go_quiet (first | (go_at_call 140; exact quiet_same (HC.out _)))
 have HD2 := Lib.hid (HD1.out.drewN nq)
 have HR2 := Lib.hid (HR1.out.drewN nq)
 have HO2 := Lib.hid (HO1.out.drewN nq)
 clear c0 c1 c4 r2 r3 r4 r6
 generalize w1.drewN nq = w2 at HD2 HR2 HO2 ⊢
 have c0 := HD2.out.blk.cell 0 rfl
 have c1 := HD2.out.blk.cell 1 rfl
 have c4 := HD2.out.blk.cell 4 rfl
 have r2 := HR2.out.cell 2 rfl
 have r3 := HR2.out.cell 3 rfl
 have r4 := HR2.out.cell 4 rfl
 have r6 := HR2.out.cell 6 rfl
 go_wp2
 go_quiet (fail)
 have HD3 := Lib.hid (HD2.out.drewN nq)
 have HR3 := Lib.hid (HR2.out.drewN nq)
 have HO3 := Lib.hid (HO2.out.drewN nq)
 clear c0 c1 c4 r2 r3 r4 r6
 generalize w2.drewN nq = w3 at HD3 HR3 HO3 ⊢
 have c0 := HD3.out.blk.cell 0 rfl
 have c1 := HD3.out.blk.cell 1 rfl
 have c4 := HD3.out.blk.cell 4 rfl
 have r2 := HR3.out.cell 2 rfl
 have r3 := HR3.out.cell 3 rfl
 have r4 := HR3.out.cell 4 rfl
 have r6 := HR3.out.cell 6 rfl
 go_wp2
 go_ret2
 exact drI_no (by omega) HD3.out HO3.out
set_option maxRecDepth 100000 in
set_option maxHeartbeats 2000000 in
theorem oauth_late (F : Nat → Prop) (g : Nat) (va vp X Y : Value) (s : St) (r : Rq) (w : World) (h : Dr F w g va vp X Y s) (hrt : rightB s.acs = true) (hp64 : s.pys.length ≤ 2000000) (hc : isC s.acs.length r.a ∧ isC s.acs.length r.b) (he : ¬ r.a = r.b) (ht : r.til ≤ s.now) :
  Calls Tryz.prog 134 #[.pointer (some ⟨g, 0, none⟩), r.val] w (DrI F w g X Y s 0 1) := by
 obtain ⟨zs, ps, now⟩ := s
 obtain ⟨k, o, a, b, m, l, u⟩ := r
 obtain ⟨A, cap, rfl, hr, _, _, hnil⟩ := h.oa.form
 obtain ⟨B, d, rfl, hrp, _, _, hpnil⟩ := h.op.form
 have hlen := right_len hrt
 dsimp only at *
 obtain ⟨n, hn⟩ : ∃ n, zs.length = n := ⟨_, rfl⟩
 obtain ⟨q, hq⟩ : ∃ q, ps.length = q := ⟨_, rfl⟩
 simp only [hn, hq] at hc hp64 h hlen hnil hpnil ⊢
 have HD1 := Lib.hid (h.alloc (.cells (rqC k o a b m l u) 42))
 have HR1 := Lib.hid (Blk.new w 42 (rqC k o a b m l u))
 have HO1 := Lib.hid (h.on ((Below.refl _ _).alloc (Nat.le_refl _) (.cells (rqC k o a b m l u) 42)))
 have HRT := Lib.hid hrt
 have HN := Lib.hid hn
 have HQ := Lib.hid hq
 have HNIL := Lib.hid hnil
 unfold Rq.val
 dsimp only
 clear h hr hrp hnil hpnil hn hq hrt
 go_enter Tryz.func134, Tryz.ntmps134
 go_upto_region 1 with fail
 generalize w.alloc (.cells (rqC k o a b m l u) 42) = w1 at HD1 HR1 HO1 ⊢
 have c0 := HD1.out.blk.cell 0 rfl
 have c1 := HD1.out.blk.cell 1 rfl
 have c4 := HD1.out.blk.cell 4 rfl
 have r2 := HR1.out.cell 2 rfl
 have r3 := HR1.out.cell 3 rfl
 have r4 := HR1.out.cell 4 rfl
 have r6 := HR1.out.cell 6 rfl
 have qc := decide_eq_true hc
 have qe := eqF he
 have qt := decide_eq_true ht
 clear hc he ht
 have HC := Lib.hid (fun W => areClients_any A n cap a b W)
 rw [qc] at HC
 clear qc
 go_wp2
 go_quiet (first | (go_at_call 140; exact quiet_same (HC.out _)))
 have HD2 := Lib.hid (HD1.out.drewN nq)
 have HR2 := Lib.hid (HR1.out.drewN nq)
 have HO2 := Lib.hid (HO1.out.drewN nq)
 clear c0 c1 c4 r2 r3 r4 r6
 generalize w1.drewN nq = w2 at HD2 HR2 HO2 ⊢
 have c0 := HD2.out.blk.cell 0 rfl
 have c1 := HD2.out.blk.cell 1 rfl
 have c4 := HD2.out.blk.cell 4 rfl
 have r2 := HR2.out.cell 2 rfl
 have r3 := HR2.out.cell 3 rfl
 have r4 := HR2.out.cell 4 rfl
 have r6 := HR2.out.cell 6 rfl
 go_wp2
 go_quiet (fail)
 have HD3 := Lib.hid (HD2.out.drewN nq)
 have HR3 := Lib.hid (HR2.out.drewN nq)
 have HO3 := Lib.hid (HO2.out.drewN nq)
 clear c0 c1 c4 r2 r3 r4 r6
 generalize w2.drewN nq = w3 at HD3 HR3 HO3 ⊢
 have c0 := HD3.out.blk.cell 0 rfl
 have c1 := HD3.out.blk.cell 1 rfl
 have c4 := HD3.out.blk.cell 4 rfl
 have r2 := HR3.out.cell 2 rfl
 have r3 := HR3.out.cell 3 rfl
 have r4 := HR3.out.cell 4 rfl
 have r6 := HR3.out.cell 6 rfl
 go_wp2
 go_ret2
 exact drI_no (by omega) HD3.out HO3.out
set_option maxRecDepth 100000 in
set_option maxHeartbeats 2000000 in
theorem oauth_full (F : Nat → Prop) (g : Nat) (va vp X Y : Value) (s : St) (r : Rq) (w : World) (h : Dr F w g va vp X Y s) (hrt : rightB s.acs = true) (hp64 : s.pys.length ≤ 2000000) (hc : isC s.acs.length r.a ∧ isC s.acs.length r.b) (he : ¬ r.a = r.b) (ht : ¬ r.til ≤ s.now) (hf : 64 ≤ s.pys.length) :
  Calls Tryz.prog 134 #[.pointer (some ⟨g, 0, none⟩), r.val] w (DrI F w g X Y s 0 7) := by
 obtain ⟨zs, ps, now⟩ := s
 obtain ⟨k, o, a, b, m, l, u⟩ := r
 obtain ⟨A, cap, rfl, hr, _, _, hnil⟩ := h.oa.form
 obtain ⟨B, d, rfl, hrp, _, _, hpnil⟩ := h.op.form
 have hlen := right_len hrt
 dsimp only at *
 obtain ⟨n, hn⟩ : ∃ n, zs.length = n := ⟨_, rfl⟩
 obtain ⟨q, hq⟩ : ∃ q, ps.length = q := ⟨_, rfl⟩
 simp only [hn, hq] at hc hf hp64 h hlen hnil hpnil ⊢
 have HD1 := Lib.hid (h.alloc (.cells (rqC k o a b m l u) 42))
 have HR1 := Lib.hid (Blk.new w 42 (rqC k o a b m l u))
 have HO1 := Lib.hid (h.on ((Below.refl _ _).alloc (Nat.le_refl _) (.cells (rqC k o a b m l u) 42)))
 have HRT := Lib.hid hrt
 have HN := Lib.hid hn
 have HQ := Lib.hid hq
 have HNIL := Lib.hid hnil
 unfold Rq.val
 dsimp only
 clear h hr hrp hnil hpnil hn hq hrt
 go_enter Tryz.func134, Tryz.ntmps134
 go_upto_region 1 with fail
 generalize w.alloc (.cells (rqC k o a b m l u) 42) = w1 at HD1 HR1 HO1 ⊢
 have c0 := HD1.out.blk.cell 0 rfl
 have c1 := HD1.out.blk.cell 1 rfl
 have c4 := HD1.out.blk.cell 4 rfl
 have r2 := HR1.out.cell 2 rfl
 have r3 := HR1.out.cell 3 rfl
 have r4 := HR1.out.cell 4 rfl
 have r6 := HR1.out.cell 6 rfl
 have qc := decide_eq_true hc
 have qe := eqF he
 have qt := decide_eq_false ht
 have qf := decide_eq_true (show (64 : Int) ≤ (q : Int) by omega)
 clear hc he ht
 have HC := Lib.hid (fun W => areClients_any A n cap a b W)
 rw [qc] at HC
 clear qc
 go_wp2
 go_quiet (first | (go_at_call 140; exact quiet_same (HC.out _)))
 have HD2 := Lib.hid (HD1.out.drewN nq)
 have HR2 := Lib.hid (HR1.out.drewN nq)
 have HO2 := Lib.hid (HO1.out.drewN nq)
 clear c0 c1 c4 r2 r3 r4 r6
 generalize w1.drewN nq = w2 at HD2 HR2 HO2 ⊢
 have c0 := HD2.out.blk.cell 0 rfl
 have c1 := HD2.out.blk.cell 1 rfl
 have c4 := HD2.out.blk.cell 4 rfl
 have r2 := HR2.out.cell 2 rfl
 have r3 := HR2.out.cell 3 rfl
 have r4 := HR2.out.cell 4 rfl
 have r6 := HR2.out.cell 6 rfl
 go_wp2
 go_quiet (fail)
 have HD3 := Lib.hid (HD2.out.drewN nq)
 have HR3 := Lib.hid (HR2.out.drewN nq)
 have HO3 := Lib.hid (HO2.out.drewN nq)
 clear c0 c1 c4 r2 r3 r4 r6
 generalize w2.drewN nq = w3 at HD3 HR3 HO3 ⊢
 have c0 := HD3.out.blk.cell 0 rfl
 have c1 := HD3.out.blk.cell 1 rfl
 have c4 := HD3.out.blk.cell 4 rfl
 have r2 := HR3.out.cell 2 rfl
 have r3 := HR3.out.cell 3 rfl
 have r4 := HR3.out.cell 4 rfl
 have r6 := HR3.out.cell 6 rfl
 go_wp2
 go_ret2
 exact drI_no (by omega) HD3.out HO3.out
set_option maxRecDepth 100000 in
set_option maxHeartbeats 2000000 in
theorem oauth_hold (F : Nat → Prop) (g : Nat) (va vp X Y : Value) (s : St) (r : Rq) (w : World) (h : Dr F w g va vp X Y s) (hrt : rightB s.acs = true) (hp64 : s.pys.length ≤ 2000000) (hc : isC s.acs.length r.a ∧ isC s.acs.length r.b) (he : ¬ r.a = r.b) (ht : ¬ r.til ≤ s.now) (hf : s.pys.length < 64) (E : Int) (hE : holdE s.acs r.a r.amt = E) (hE0 : ¬ E = 0) :
  Calls Tryz.prog 134 #[.pointer (some ⟨g, 0, none⟩), r.val] w (DrI F w g X Y s 0 E) := by
 obtain ⟨zs, ps, now⟩ := s
 obtain ⟨k, o, a, b, m, l, u⟩ := r
 obtain ⟨A, cap, rfl, hr, _, _, hnil⟩ := h.oa.form
 obtain ⟨B, d, rfl, hrp, _, _, hpnil⟩ := h.op.form
 have hlen := right_len hrt
 dsimp only at *
 obtain ⟨n, hn⟩ : ∃ n, zs.length = n := ⟨_, rfl⟩
 obtain ⟨q, hq⟩ : ∃ q, ps.length = q := ⟨_, rfl⟩
 simp only [hn, hq] at hc hf hp64 h hlen hnil hpnil ⊢
 have HD1 := Lib.hid (h.alloc (.cells (rqC k o a b m l u) 42))
 have HR1 := Lib.hid (Blk.new w 42 (rqC k o a b m l u))
 have HO1 := Lib.hid (h.on ((Below.refl _ _).alloc (Nat.le_refl _) (.cells (rqC k o a b m l u) 42)))
 have HRT := Lib.hid hrt
 have HN := Lib.hid hn
 have HQ := Lib.hid hq
 have HNIL := Lib.hid hnil
 unfold Rq.val
 dsimp only
 clear h hr hrp hnil hpnil hn hq hrt
 go_enter Tryz.func134, Tryz.ntmps134
 go_upto_region 1 with fail
 generalize w.alloc (.cells (rqC k o a b m l u) 42) = w1 at HD1 HR1 HO1 ⊢
 have c0 := HD1.out.blk.cell 0 rfl
 have c1 := HD1.out.blk.cell 1 rfl
 have c4 := HD1.out.blk.cell 4 rfl
 have r2 := HR1.out.cell 2 rfl
 have r3 := HR1.out.cell 3 rfl
 have r4 := HR1.out.cell 4 rfl
 have r6 := HR1.out.cell 6 rfl
 have qc := decide_eq_true hc
 have qe := eqF he
 have qt := decide_eq_false ht
 have qf := decide_eq_false (show ¬ (64 : Int) ≤ (q : Int) by omega)
 clear hc he ht
 have HHO := Lib.hid (fun W (hr' : RdA W A zs) => hold_any A n cap zs a m W HN.out hr' (by omega) HNIL.out)
 unfold LedRes at HHO
 rw [hE, errV, if_neg hE0] at HHO
 have HE := Lib.hid hE0
 clear hE hE0
 have HC := Lib.hid (fun W => areClients_any A n cap a b W)
 rw [qc] at HC
 clear qc
 go_wp2
 go_quiet (first | (go_at_call 140; exact quiet_same (HC.out _)))
 have HD2 := Lib.hid (HD1.out.drewN nq)
 have HR2 := Lib.hid (HR1.out.drewN nq)
 have HO2 := Lib.hid (HO1.out.drewN nq)
 clear c0 c1 c4 r2 r3 r4 r6
 generalize w1.drewN nq = w2 at HD2 HR2 HO2 ⊢
 have c0 := HD2.out.blk.cell 0 rfl
 have c1 := HD2.out.blk.cell 1 rfl
 have c4 := HD2.out.blk.cell 4 rfl
 have r2 := HR2.out.cell 2 rfl
 have r3 := HR2.out.cell 3 rfl
 have r4 := HR2.out.cell 4 rfl
 have r6 := HR2.out.cell 6 rfl
 go_wp2
 go_quiet (fail)
 have HD3 := Lib.hid (HD2.out.drewN nq)
 have HR3 := Lib.hid (HR2.out.drewN nq)
 have HO3 := Lib.hid (HO2.out.drewN nq)
 clear c0 c1 c4 r2 r3 r4 r6
 generalize w2.drewN nq = w3 at HD3 HR3 HO3 ⊢
 have c0 := HD3.out.blk.cell 0 rfl
 have c1 := HD3.out.blk.cell 1 rfl
 have c4 := HD3.out.blk.cell 4 rfl
 have r2 := HR3.out.cell 2 rfl
 have r3 := HR3.out.cell 3 rfl
 have r4 := HR3.out.cell 4 rfl
 have r6 := HR3.out.cell 6 rfl
 go_upto_region 7 with fail
 refine wp_region_held_drew (S := fun w' => Below w3.heap.size w3 w') (by kernel_rfl) (Below.refl _ _).drew (fun hHeld => ?_)
 refine tk 0 42 (v := ?_) ?_ ?_
 rotate_left
 · intro w' hSw
   go_simp
   (try with_reducible rfl)
 (try simp only [Act.put, sA, sB, sC])
 refine tk 1 43 (v := ?_) ?_ ?_
 rotate_left
 · intro w' hSw
   go_simp
   (try with_reducible rfl)
 (try simp only [Act.put, sA, sB, sC])
 refine tk 2 44 (v := ?_) ?_ ?_
 rotate_left
 · intro w' hSw
   go_simp
   (try with_reducible rfl)
 (try simp only [Act.put, sA, sB, sC])
 refine tk 3 45 (v := ?_) ?_ ?_
 rotate_left
 · intro w' hSw
   have hSw' := hSw
   (try dsimp only at hSw')
   have k0 := (HD3.out.below hSw').blk.cell 0 rfl
   go_simp
   (try with_reducible rfl)
 (try simp only [Act.put, sA, sB, sC])
 refine tk 4 46 (v := ?_) ?_ ?_
 rotate_left
 · intro w' hSw
   go_simp
   (try with_reducible rfl)
 (try simp only [Act.put, sA, sB, sC])
 refine tk 5 47 (v := ?_) ?_ ?_
 rotate_left
 · intro w' hSw
   have hSw' := hSw
   (try dsimp only at hSw')
   have k2 := (HR3.out.later hSw').cell 2 rfl
   go_simp
   (try with_reducible rfl)
 (try simp only [Act.put, sA, sB, sC])
 refine tk 6 48 (v := ?_) ?_ ?_
 rotate_left
 · intro w' hSw
   go_simp
   (try with_reducible rfl)
 (try simp only [Act.put, sA, sB, sC])
 refine tk 7 49 (v := ?_) ?_ ?_
 rotate_left
 · intro w' hSw
   have hSw' := hSw
   (try dsimp only at hSw')
   have k4 := (HR3.out.later hSw').cell 4 rfl
   go_simp
   (try with_reducible rfl)
 (try simp only [Act.put, sA, sB, sC])
 refine wpAnyH_ready (rs := [8]) (by kernel_rfl) (by simp) ?_
 refine AllReadyH.cons (i := 8) rfl (fun K hK => ?_) AllReadyH.nil
 go_simp
 go_at_call 34
 refine (HHO.out _ HD3.out.oa.rd.drew).mono ?_
 rintro _ w4 ⟨v4, rfl, ho4, hb4⟩
 have hb4' : Below w3.heap.size w3 w4 := (Below.refl w3.heap.size w3).drew.trans hb4
 refine hK.out _ _ hb4' (fun hHeld => ?_)
 clear hK K
 (try simp only [Act.put, sA, sB, sC])
 refine tk 9 41 (v := ?_) ?_ ?_
 rotate_left
 · intro w' hSw
   go_simp
   (try with_reducible rfl)
 (try simp only [Act.put, sA, sB, sC])
 refine tk 10 51 (v := ?_) ?_ ?_
 rotate_left
 · intro w' hSw
   go_simp
   (try with_reducible rfl)
 (try simp only [Act.put, sA, sB, sC])
 refine tk 11 52 (v := ?_) ?_ ?_
 rotate_left
 · intro w' hSw
   go_simp
   (try with_reducible rfl)
 (try simp only [Act.put, sA, sB, sC])
 refine tk 12 6 (v := ?_) ?_ ?_
 rotate_left
 · intro w' hSw
   go_simp
   (try with_reducible rfl)
 (try simp only [Act.put, sA, sB, sC])
 refine tk 13 7 (v := ?_) ?_ ?_
 rotate_left
 · intro w' hSw
   go_simp
   (try with_reducible rfl)
 (try simp only [Act.put, sA, sB, sC])
 refine wpAnyH_done (by kernel_rfl) ?_ _
 go_wp2
 go_ret2
 exact drI_no HE.out (HD3.out.below hb4') (HO3.out.trans (HD3.out.on hb4'))
set_option maxRecDepth 100000 in
set_option maxHeartbeats 2000000 in
theorem oauth_ok (F : Nat → Prop) (g : Nat) (va vp X Y : Value) (s : St) (r : Rq) (w : World) (h : Dr F w g va vp X Y s) (hrt : rightB s.acs = true) (hp64 : s.pys.length ≤ 2000000) (hc : isC s.acs.length r.a ∧ isC s.acs.length r.b) (he : ¬ r.a = r.b) (ht : ¬ r.til ≤ s.now) (hf : s.pys.length < 64) (hE : holdE s.acs r.a r.amt = 0) :
  Calls Tryz.prog 134 #[.pointer (some ⟨g, 0, none⟩), r.val] w (DrI F w g X Y ⟨holdL s.acs r.a r.amt, s.pys ++ [⟨r.a, r.b, r.amt, 0, 0, 0, r.til, 0⟩], s.now⟩ (s.pys.length : Int) 0) := by
 have har := h.plt
 have hgR : g < w.heap.size := h.blk.lt
 obtain ⟨zs, ps, now⟩ := s
 obtain ⟨k, o, a, b, m, l, u⟩ := r
 obtain ⟨A, cap, rfl, hr, _, _, hnil⟩ := h.oa.form
 obtain ⟨B, d, rfl, hrp, _, _, hpnil⟩ := h.op.form
 have hlen := right_len hrt
 dsimp only at *
 obtain ⟨n, hn⟩ : ∃ n, zs.length = n := ⟨_, rfl⟩
 obtain ⟨q, hq⟩ : ∃ q, ps.length = q := ⟨_, rfl⟩
 simp only [hn, hq] at hc hf hp64 har h hlen hnil hpnil ⊢
 have HD1 := Lib.hid (h.alloc (.cells (rqC k o a b m l u) 42))
 have HR1 := Lib.hid (Blk.new w 42 (rqC k o a b m l u))
 have HO1 := Lib.hid (h.on ((Below.refl _ _).alloc (Nat.le_refl _) (.cells (rqC k o a b m l u) 42)))
 have HRT := Lib.hid hrt
 have HN := Lib.hid hn
 have HQ := Lib.hid hq
 have HNIL := Lib.hid hnil
 unfold Rq.val
 dsimp only
 clear h hr hrp hnil hpnil hn hq hrt
 go_enter Tryz.func134, Tryz.ntmps134
 go_upto_region 1 with fail
 generalize w.alloc (.cells (rqC k o a b m l u) 42) = w1 at HD1 HR1 HO1 ⊢
 have c0 := HD1.out.blk.cell 0 rfl
 have c1 := HD1.out.blk.cell 1 rfl
 have c4 := HD1.out.blk.cell 4 rfl
 have r2 := HR1.out.cell 2 rfl
 have r3 := HR1.out.cell 3 rfl
 have r4 := HR1.out.cell 4 rfl
 have r6 := HR1.out.cell 6 rfl
 have qc := decide_eq_true hc
 have qe := eqF he
 have qt := decide_eq_false ht
 have qf := decide_eq_false (show ¬ (64 : Int) ≤ (q : Int) by omega)
 clear hc he ht
 have HHO := Lib.hid (fun W (hr' : RdA W A zs) => hold_any A n cap zs a m W HN.out hr' (by omega) HNIL.out)
 unfold LedRes at HHO
 rw [hE, show errV 0 = .nilIface from rfl] at HHO
 have HAR := Lib.hid har
 clear har
 have HC := Lib.hid (fun W => areClients_any A n cap a b W)
 rw [qc] at HC
 clear qc
 go_wp2
 go_quiet (first | (go_at_call 140; exact quiet_same (HC.out _)))
 have HD2 := Lib.hid (HD1.out.drewN nq)
 have HR2 := Lib.hid (HR1.out.drewN nq)
 have HO2 := Lib.hid (HO1.out.drewN nq)
 clear c0 c1 c4 r2 r3 r4 r6
 generalize w1.drewN nq = w2 at HD2 HR2 HO2 ⊢
 have c0 := HD2.out.blk.cell 0 rfl
 have c1 := HD2.out.blk.cell 1 rfl
 have c4 := HD2.out.blk.cell 4 rfl
 have r2 := HR2.out.cell 2 rfl
 have r3 := HR2.out.cell 3 rfl
 have r4 := HR2.out.cell 4 rfl
 have r6 := HR2.out.cell 6 rfl
 go_wp2
 go_quiet (fail)
 have HD3 := Lib.hid (HD2.out.drewN nq)
 have HR3 := Lib.hid (HR2.out.drewN nq)
 have HO3 := Lib.hid (HO2.out.drewN nq)
 clear c0 c1 c4 r2 r3 r4 r6
 generalize w2.drewN nq = w3 at HD3 HR3 HO3 ⊢
 have c0 := HD3.out.blk.cell 0 rfl
 have c1 := HD3.out.blk.cell 1 rfl
 have c4 := HD3.out.blk.cell 4 rfl
 have r2 := HR3.out.cell 2 rfl
 have r3 := HR3.out.cell 3 rfl
 have r4 := HR3.out.cell 4 rfl
 have r6 := HR3.out.cell 6 rfl
 go_upto_region 7 with fail
 refine wp_region_held_drew (S := fun w' => Below w3.heap.size w3 w') (by kernel_rfl) (Below.refl _ _).drew (fun hHeld => ?_)
 refine tk 0 42 (v := ?_) ?_ ?_
 rotate_left
 · intro w' hSw
   go_simp
   (try with_reducible rfl)
 (try simp only [Act.put, sA, sB, sC])
 refine tk 1 43 (v := ?_) ?_ ?_
 rotate_left
 · intro w' hSw
   go_simp
   (try with_reducible rfl)
 (try simp only [Act.put, sA, sB, sC])
 refine tk 2 44 (v := ?_) ?_ ?_
 rotate_left
 · intro w' hSw
   go_simp
   (try with_reducible rfl)
 (try simp only [Act.put, sA, sB, sC])
 refine tk 3 45 (v := ?_) ?_ ?_
 rotate_left
 · intro w' hSw
   have hSw' := hSw
   (try dsimp only at hSw')
   have k0 := (HD3.out.below hSw').blk.cell 0 rfl
   go_simp
   (try with_reducible rfl)
 (try simp only [Act.put, sA, sB, sC])
 refine tk 4 46 (v := ?_) ?_ ?_
 rotate_left
 · intro w' hSw
   go_simp
   (try with_reducible rfl)
 (try simp only [Act.put, sA, sB, sC])
 refine tk 5 47 (v := ?_) ?_ ?_
 rotate_left
 · intro w' hSw
   have hSw' := hSw
   (try dsimp only at hSw')
   have k2 := (HR3.out.later hSw').cell 2 rfl
   go_simp
   (try with_reducible rfl)
 (try simp only [Act.put, sA, sB, sC])
 refine tk 6 48 (v := ?_) ?_ ?_
 rotate_left
 · intro w' hSw
   go_simp
   (try with_reducible rfl)
 (try simp only [Act.put, sA, sB, sC])
 refine tk 7 49 (v := ?_) ?_ ?_
 rotate_left
 · intro w' hSw
   have hSw' := hSw
   (try dsimp only at hSw')
   have k4 := (HR3.out.later hSw').cell 4 rfl
   go_simp
   (try with_reducible rfl)
 (try simp only [Act.put, sA, sB, sC])
 refine wpAnyH_ready (rs := [8]) (by kernel_rfl) (by simp) ?_
 refine AllReadyH.cons (i := 8) rfl (fun K hK => ?_) AllReadyH.nil
 go_simp
 go_at_call 34
 refine (HHO.out _ HD3.out.oa.rd.drew).mono ?_
 rintro _ w4 ⟨v4, rfl, ho4, hb4⟩
 have hb4' : Below w3.heap.size w3 w4 := (Below.refl w3.heap.size w3).drew.trans hb4
 refine hK.out _ _ hb4' (fun hHeld => ?_)
 clear hK K
 (try simp only [Act.put, sA, sB, sC])
 refine tk 9 41 (v := ?_) ?_ ?_
 rotate_left
 · intro w' hSw
   go_simp
   (try with_reducible rfl)
 (try simp only [Act.put, sA, sB, sC])
 refine tk 10 51 (v := ?_) ?_ ?_
 rotate_left
 · intro w' hSw
   go_simp
   (try with_reducible rfl)
 (try simp only [Act.put, sA, sB, sC])
 refine tk 11 52 (v := ?_) ?_ ?_
 rotate_left
 · intro w' hSw
   go_simp
   (try with_reducible rfl)
 (try simp only [Act.put, sA, sB, sC])
 refine tk 12 6 (v := ?_) ?_ ?_
 rotate_left
 · intro w' hSw
   go_simp
   (try with_reducible rfl)
 (try simp only [Act.put, sA, sB, sC])
 refine tk 13 7 (v := ?_) ?_ ?_
 rotate_left
 · intro w' hSw
   go_simp
   (try with_reducible rfl)
 (try simp only [Act.put, sA, sB, sC])
 refine wpAnyH_done (by kernel_rfl) ?_ _
 have HS4 := Lib.hid (HD3.out.setA hb4' (show OwnA w4 w3.heap.size v4 (holdL zs a m) from ho4))
 obtain ⟨A4, cap4, hv4, _, _, _, _⟩ := ho4.form
 have hln := hold_len hE
 rw [hln, HN.out] at hv4
 subst hv4
 have HR4 := Lib.hid ((HR3.out.later hb4').setOther (b := g) (by omega) 0 (.slice A4 n cap4))
 have k0 := (HD3.out.below hb4').blk.cell 0 rfl
 have k1 := (HD3.out.below hb4').blk.loose 0
 go_upto_region 11 with fail
 have HDW := Lib.hid HS4.out.1
 replace HON := Lib.hid (HO3.out.trans HS4.out.2)
 replace HRQ := HR4
 clear ho4 hb4 hb4' HS4 k0 k1 hHeld
 generalize w4.setCell ⟨g, 0, none⟩ (.slice A4 n cap4) = w5 at HDW HON HRQ ⊢
 have HGA := Lib.hid (fun b e => (HDW.out.pg b e).1)
 have c1 := HDW.out.blk.cell 1 rfl
 refine wp_region_held_drew (S := fun w' => Blk w' w.heap.size 42 (rqC k o a b m l u)) (by kernel_rfl) HRQ.out.drew (fun hHeld => ?_)
 refine tk 0 60 (v := ?_) ?_ ?_
 rotate_left
 · intro w' hSw
   go_simp
   (try with_reducible rfl)
 (try simp only [Act.put, sA, sB, sC])
 refine tk 1 61 (v := ?_) ?_ ?_
 rotate_left
 · intro w' hSw
   go_simp
   (try with_reducible rfl)
 (try simp only [Act.put, sA, sB, sC])
 refine tk 2 62 (v := ?_) ?_ ?_
 rotate_left
 · intro w' hSw
   go_simp
   (try with_reducible rfl)
 (try simp only [Act.put, sA, sB, sC])
 refine tk 3 63 (v := ?_) ?_ ?_
 rotate_left
 · intro w' hSw
   go_simp
   (try with_reducible rfl)
 (try simp only [Act.put, sA, sB, sC])
 refine tk 5 65 (v := ?_) ?_ ?_
 rotate_left
 · intro w' hSw
   go_simp
   (try with_reducible rfl)
 (try simp only [Act.put, sA, sB, sC])
 refine tk 6 66 (v := ?_) ?_ ?_
 rotate_left
 · intro w' hSw
   have hSw' := hSw
   (try dsimp only at hSw')
   have k2 := hSw'.cell 2 rfl
   go_simp
   (try with_reducible rfl)
 (try simp only [Act.put, sA, sB, sC])
 refine tk 7 67 (v := ?_) ?_ ?_
 rotate_left
 · intro w' hSw
   go_simp
   (try with_reducible rfl)
 (try simp only [Act.put, sA, sB, sC])
 refine tk 8 68 (v := ?_) ?_ ?_
 rotate_left
 · intro w' hSw
   have hSw' := hSw
   (try dsimp only at hSw')
   have k3 := hSw'.cell 3 rfl
   go_simp
   (try with_reducible rfl)
 (try simp only [Act.put, sA, sB, sC])
 refine tk 9 69 (v := ?_) ?_ ?_
 rotate_left
 · intro w' hSw
   go_simp
   (try with_reducible rfl)
 (try simp only [Act.put, sA, sB, sC])
 refine tk 10 70 (v := ?_) ?_ ?_
 rotate_left
 · intro w' hSw
   have hSw' := hSw
   (try dsimp only at hSw')
   have k4 := hSw'.cell 4 rfl
   go_simp
   (try with_reducible rfl)
 (try simp only [Act.put, sA, sB, sC])
 refine tk 11 71 (v := ?_) ?_ ?_
 rotate_left
 · intro w' hSw
   go_simp
   (try with_reducible rfl)
 (try simp only [Act.put, sA, sB, sC])
 refine tk 12 72 (v := ?_) ?_ ?_
 rotate_left
 · intro w' hSw
   have hSw' := hSw
   (try dsimp only at hSw')
   have k6 := hSw'.cell 6 rfl
   go_simp
   (try with_reducible rfl)
 (try simp only [Act.put, sA, sB, sC])
 refine tk 13 73 (v := ?_) ?_ ?_
 rotate_left
 · intro w' hSw
   go_simp
   (try with_reducible rfl)
 (try simp only [Act.put, sA, sB, sC])
 refine wpAnyH_ready (rs := [4, 14]) (by kernel_rfl) (by simp) ?_
 refine AllReadyH.cons (i := 4) rfl (fun K hK => ?_) (AllReadyH.cons (i := 14) rfl (fun K hK => ?_) AllReadyH.nil)
 · go_simp
   refine hK.out _ _ hHeld (fun hHeld => ?_)
   clear hK K
   (try simp only [Act.put, sA, sB, sC])
   refine wpAnyH_ready (rs := [14]) (by kernel_rfl) (by simp) ?_
   refine AllReadyH.cons (i := 14) rfl (fun K hK => ?_) AllReadyH.nil
   go_simp
   refine hK.out _ _ (hHeld.more _) (fun hHeld => ?_)
   clear hK K
   (try simp only [Act.put, sA, sB, sC])
   have HDA := Lib.hid (HDW.out.alloc (.cells #[.int .i64 a, .int .i64 b, .int .i64 m, .int .i64 0, .int .i64 0, .int .i64 0, .int .i64 u, .int .i64 0] 96)).drew
   have HNB := Lib.hid (Blk.new w5 96 #[.int .i64 a, .int .i64 b, .int .i64 m, .int .i64 0, .int .i64 0, .int .i64 0, .int .i64 u, .int .i64 0]).drew
   refine wpAnyH_ready (rs := [15]) (by kernel_rfl) (by simp) ?_
   refine AllReadyH.cons (i := 15) rfl (fun K hK => ?_) AllReadyH.nil
   obtain ⟨i0, hi, hz0, hz1, hz2⟩ := info_parts info_pay
   refine step_append_lies _ rfl (.tmp 64) (.tmp 74) 31 rfl 0 96 i0 _ 8 64 Tryz.underlying31 hi hz0 hz1 hz2 rfl (by omega) (.slice B q d) _ _ rfl (show OwnS pays _ 0 _ ps from HDA.out.op) ⟨w5.heap.size, 0, none⟩ 1 1 (pays.flat [⟨a, b, m, 0, 0, 0, u, 0⟩]) rfl rfl (World.news_of_block HNB.out) (pays.flat_one _) (by omega) (by have := HQ.out; simp only [maxLen]; omega) (by have := HQ.out; omega) (Nat.zero_le _) _ rfl ?_
   clear hi hz0 hz1 hz2 i0
   intro g9 c9 w9 ho9 hg9 hat9 hlt9
   rw [HQ.out] at ho9 ⊢
   refine hK.out _ _ (hHeld.grown hg9 (fun e => by have := HAR.out _ e.symm; omega)) (fun hHeld => ?_)
   clear hK K
   (try simp only [Act.put, sA, sB, sC])
   have HDX := Lib.hid (HDA.out.growP (ps := ps ++ [⟨a, b, m, 0, 0, 0, u, 0⟩]) (v := .slice (some ⟨g9, 0, none⟩) (q + 1) c9) hg9 (by unfold OwnS; rw [List.length_append, pays.flat_append, HQ.out]; exact ho9) (fun b' e => by
       have e' : g9 = b' := by simpa [Value.ownBlock] using e
       subst e'
       exact hat9))
   refine tk 16 76 (v := ?_) ?_ ?_
   rotate_left
   · intro w' hSw
     go_simp
     (try with_reducible rfl)
   (try simp only [Act.put, sA, sB, sC])
   refine tk 17 77 (v := ?_) ?_ ?_
   rotate_left
   · intro w' hSw
     go_simp
     (try with_reducible rfl)
   (try simp only [Act.put, sA, sB, sC])
   have f9 : w9.frozen? ⟨g, 1, none⟩ = false := (HDA.out.blk.grown hg9 (fun e => HGA.out _ e.symm rfl)).loose 1
   have g9_ := (HDA.out.blk.grown hg9 (fun e => HGA.out _ e.symm rfl)).cell 1 rfl
   refine wpAnyH_ready (rs := [18]) (by kernel_rfl) (by simp) ?_
   refine AllReadyH.cons (i := 18) rfl (fun K hK => ?_) AllReadyH.nil
   go_simp
   refine hK.out _ _ (hHeld.setOther (b := g) (by omega) _ _) (fun hHeld => ?_)
   clear hK K
   (try simp only [Act.put, sA, sB, sC])
   refine wpAnyH_done (by kernel_rfl) ?_ _
   clear hHeld f9 g9_
   have HD9 := Lib.hid HDX.out.1
   have HO9 := Lib.hid ((On.of ((Below.refl _ _).alloc (Nat.le_refl _) (.cells #[.int .i64 a, .int .i64 b, .int .i64 m, .int .i64 0, .int .i64 0, .int .i64 0, .int .i64 u, .int .i64 0] 96)) HDW.out.lt).drew.trans HDX.out.2)
   generalize w9.setCell ⟨g, 1, none⟩ (.slice (some ⟨g9, 0, none⟩) (q + 1) c9) = w10 at HD9 HO9 ⊢
   clear HDX HDA HNB ho9 hg9 hat9 hlt9 c1
   have c1 := HD9.out.blk.cell 1 rfl
   go_wp2
   go_ret2
   exact ⟨_, _, rfl, HD9.out, HON.out.trans HO9.out⟩
 · go_simp
   refine hK.out _ _ (hHeld.more _) (fun hHeld => ?_)
   clear hK K
   (try simp only [Act.put, sA, sB, sC])
   refine wpAnyH_ready (rs := [4]) (by kernel_rfl) (by simp) ?_
   refine AllReadyH.cons (i := 4) rfl (fun K hK => ?_) AllReadyH.nil
   have c1' := (HDW.out.alloc (.cells #[.int .i64 a, .int .i64 b, .int .i64 m, .int .i64 0, .int .i64 0, .int .i64 0, .int .i64 u, .int .i64 0] 96)).blk.cell 1 rfl
   go_simp
   refine hK.out _ _ hHeld (fun hHeld => ?_)
   clear hK K
   (try simp only [Act.put, sA, sB, sC])
   have HDA := Lib.hid (HDW.out.alloc (.cells #[.int .i64 a, .int .i64 b, .int .i64 m, .int .i64 0, .int .i64 0, .int .i64 0, .int .i64 u, .int .i64 0] 96)).drew
   have HNB := Lib.hid (Blk.new w5 96 #[.int .i64 a, .int .i64 b, .int .i64 m, .int .i64 0, .int .i64 0, .int .i64 0, .int .i64 u, .int .i64 0]).drew
   refine wpAnyH_ready (rs := [15]) (by kernel_rfl) (by simp) ?_
   refine AllReadyH.cons (i := 15) rfl (fun K hK => ?_) AllReadyH.nil
   obtain ⟨i0, hi, hz0, hz1, hz2⟩ := info_parts info_pay
   refine step_append_lies _ rfl (.tmp 64) (.tmp 74) 31 rfl 0 96 i0 _ 8 64 Tryz.underlying31 hi hz0 hz1 hz2 rfl (by omega) (.slice B q d) _ _ rfl (show OwnS pays _ 0 _ ps from HDA.out.op) ⟨w5.heap.size, 0, none⟩ 1 1 (pays.flat [⟨a, b, m, 0, 0, 0, u, 0⟩]) rfl rfl (World.news_of_block HNB.out) (pays.flat_one _) (by omega) (by have := HQ.out; simp only [maxLen]; omega) (by have := HQ.out; omega) (Nat.zero_le _) _ rfl ?_
   clear hi hz0 hz1 hz2 i0
   intro g9 c9 w9 ho9 hg9 hat9 hlt9
   rw [HQ.out] at ho9 ⊢
   refine hK.out _ _ (hHeld.grown hg9 (fun e => by have := HAR.out _ e.symm; omega)) (fun hHeld => ?_)
   clear hK K
   (try simp only [Act.put, sA, sB, sC])
   have HDX := Lib.hid (HDA.out.growP (ps := ps ++ [⟨a, b, m, 0, 0, 0, u, 0⟩]) (v := .slice (some ⟨g9, 0, none⟩) (q + 1) c9) hg9 (by unfold OwnS; rw [List.length_append, pays.flat_append, HQ.out]; exact ho9) (fun b' e => by
       have e' : g9 = b' := by simpa [Value.ownBlock] using e
       subst e'
       exact hat9))
   refine tk 16 76 (v := ?_) ?_ ?_
   rotate_left
   · intro w' hSw
     go_simp
     (try with_reducible rfl)
   (try simp only [Act.put, sA, sB, sC])
   refine tk 17 77 (v := ?_) ?_ ?_
   rotate_left
   · intro w' hSw
     go_simp
     (try with_reducible rfl)
   (try simp only [Act.put, sA, sB, sC])
   have f9 : w9.frozen? ⟨g, 1, none⟩ = false := (HDA.out.blk.grown hg9 (fun e => HGA.out _ e.symm rfl)).loose 1
   have g9_ := (HDA.out.blk.grown hg9 (fun e => HGA.out _ e.symm rfl)).cell 1 rfl
   refine wpAnyH_ready (rs := [18]) (by kernel_rfl) (by simp) ?_
   refine AllReadyH.cons (i := 18) rfl (fun K hK => ?_) AllReadyH.nil
   go_simp
   refine hK.out _ _ (hHeld.setOther (b := g) (by omega) _ _) (fun hHeld => ?_)
   clear hK K
   (try simp only [Act.put, sA, sB, sC])
   refine wpAnyH_done (by kernel_rfl) ?_ _
   clear hHeld f9 g9_
   have HD9 := Lib.hid HDX.out.1
   have HO9 := Lib.hid ((On.of ((Below.refl _ _).alloc (Nat.le_refl _) (.cells #[.int .i64 a, .int .i64 b, .int .i64 m, .int .i64 0, .int .i64 0, .int .i64 0, .int .i64 u, .int .i64 0] 96)) HDW.out.lt).drew.trans HDX.out.2)
   generalize w9.setCell ⟨g, 1, none⟩ (.slice (some ⟨g9, 0, none⟩) (q + 1) c9) = w10 at HD9 HO9 ⊢
   clear HDX HDA HNB ho9 hg9 hat9 hlt9 c1
   have c1 := HD9.out.blk.cell 1 rfl
   go_wp2
   go_ret2
   exact ⟨_, _, rfl, HD9.out, HON.out.trans HO9.out⟩
theorem oauth_any (F : Nat → Prop) (g : Nat) (va vp X Y : Value) (s : St) (r : Rq) (w : World) (h : Dr F w g va vp X Y s) (hrt : rightB s.acs = true) (h0 : r.op = 3) (hp64 : s.pys.length ≤ 2000000) :
  Calls Tryz.prog 134 #[.pointer (some ⟨g, 0, none⟩), r.val] w (DrI F w g X Y (opS s r) (opI s r) (opE s r)) := by
 have hE : opE s r = authE s r := by unfold opE; rw [if_neg (by omega), if_neg (by omega), if_neg (by omega), if_pos h0]
 have hno : ∀ {E : Int}, authE s r = E → E ≠ 0 → opS s r = s ∧ opI s r = 0 ∧ opE s r = E := fun e1 e2 =>
  ⟨opS_no (by rw [hE, e1]; exact e2), by unfold opI; rw [if_neg (by rw [hE, e1]; exact e2)], by rw [hE, e1]⟩
 by_cases hc : isC s.acs.length r.a ∧ isC s.acs.length r.b
 · by_cases he : r.a = r.b
   · obtain ⟨e1, e2, e3⟩ := hno (E := 1) (by unfold authE; rw [if_pos hc, if_pos (Or.inl he)]) (by omega)
     rw [e1, e2, e3]
     exact oauth_same F g va vp X Y s r w h hrt hp64 hc he
   · by_cases ht : r.til ≤ s.now
     · obtain ⟨e1, e2, e3⟩ := hno (E := 1) (by unfold authE; rw [if_pos hc, if_pos (Or.inr ht)]) (by omega)
       rw [e1, e2, e3]
       exact oauth_late F g va vp X Y s r w h hrt hp64 hc he ht
     · have hn : ¬ (r.a = r.b ∨ r.til ≤ s.now) := fun k => k.elim he ht
       by_cases hf : 64 ≤ s.pys.length
       · obtain ⟨e1, e2, e3⟩ := hno (E := 7) (by unfold authE; rw [if_pos hc, if_neg hn, if_pos hf]) (by omega)
         rw [e1, e2, e3]
         exact oauth_full F g va vp X Y s r w h hrt hp64 hc he ht hf
       · have hA : authE s r = holdE s.acs r.a r.amt := by unfold authE; rw [if_pos hc, if_neg hn, if_neg hf]
         by_cases hH : holdE s.acs r.a r.amt = 0
         · have hz : opE s r = 0 := by rw [hE, hA, hH]
           rw [opS_yes hz, hz, show opI s r = (s.pys.length : Int) by unfold opI; rw [if_pos hz, if_neg (by omega), if_pos h0]]
           rw [show opT s r = ⟨holdL s.acs r.a r.amt, s.pys ++ [⟨r.a, r.b, r.amt, 0, 0, 0, r.til, 0⟩], s.now⟩ by unfold opT; rw [if_neg (by omega), if_neg (by omega), if_neg (by omega), if_pos h0]]
           exact oauth_ok F g va vp X Y s r w h hrt hp64 hc he ht (by omega) hH
         · obtain ⟨e1, e2, e3⟩ := hno hA hH
           rw [e1, e2, e3]
           exact oauth_hold F g va vp X Y s r w h hrt hp64 hc he ht (by omega) _ rfl hH
 · obtain ⟨e1, e2, e3⟩ := hno (E := 2) (by unfold authE; rw [if_neg hc]) (by omega)
   rw [e1, e2, e3]
   exact oauth_no F g va vp X Y s r w h hrt hp64 hc
end Go.Proofs.YteifgmdaggiaaaaGreatDoor
