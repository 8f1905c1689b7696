/-
  The program's change of a payment, over a state that is being changed, by its contract, whatever effect.
-/
import Derived.Test.YteifgmdaggiaaaaGreatDoorWGrF
import Derived.Test.YteifgmdaggiaaaaGreatDoorWGrD
import Derived.Test.YteifgmdaggiaaaaGreatDoorWGrE
set_option linter.unusedSimpArgs false
namespace Go.Proofs.YteifgmdaggiaaaaGreatDoor
open Go Go.RowKit
set_option linter.unusedVariables false
set_option maxRecDepth 100000 in
set_option maxHeartbeats 2000000 in
theorem ochange_no (F : Nat → Prop) (g : Nat) (va vp X Y : Value) (s : St) (r : Rq) (w : World) (h : Dr F w g va vp X Y s) (hrt : rightB s.acs = true) (hp64 : s.pys.length ≤ 2000000) (K : FuncId) (HC : ∀ args W, (callFunc K args).run Tryz.prog W = .ok (.enter K args) W) (hfx : ∀ (A : Option Addr) (n cap : Nat) (zs : List Ac) (p : Py) (x : Int) (W : World), zs.length = n → RdA W A zs → n ≤ 5864062014805 → (A = none → n = 0 ∧ cap = 0) → Curs zs → rightB zs = true → Calls Tryz.prog K #[.slice A n cap, p.val, .int .i64 x] W (FxRes (accE zs p r.op x) (accL zs p r.op x) W)) (hc : ¬ (0 ≤ r.a ∧ r.a < (s.pys.length : Int))) :
  Calls Tryz.prog 157 #[.pointer (some ⟨g, 0, none⟩), r.val, .func (.func K) #[] #[]] w (DrE F w g X Y s 2) := by
 have HHF := Lib.hid hfx
 clear hfx
 by_cases ha : r.a < 0
 · obtain ⟨zs, ps, now⟩ := s
   obtain ⟨k, o, a, b, m, l, u⟩ := r
   obtain ⟨A, cap, rfl, hr, _, _, hnil⟩ := h.oa.form
   obtain ⟨B, d, rfl, hrp, _, _, hpnil⟩ := h.op.form
   have hlen := right_len hrt
   dsimp only at *
   obtain ⟨n, hn⟩ : ∃ n, zs.length = n := ⟨_, rfl⟩
   obtain ⟨q, hq⟩ : ∃ q, ps.length = q := ⟨_, rfl⟩
   simp only [hn, hq] at hc hp64 h hlen hnil hpnil ⊢
   have HD1 := Lib.hid (h.alloc (.cells (rqC k o a b m l u) 42))
   have HR1 := Lib.hid (Blk.new w 42 (rqC k o a b m l u))
   have HO1 := Lib.hid (h.on ((Below.refl _ _).alloc (Nat.le_refl _) (.cells (rqC k o a b m l u) 42)))
   have HRT := Lib.hid hrt
   have HN := Lib.hid hn
   have HQ := Lib.hid hq
   have HNIL := Lib.hid hnil
   unfold Rq.val
   dsimp only
   clear h hr hrp hnil hpnil hn hq hrt
   go_enter Tryz.func157, Tryz.ntmps157
   go_upto_region 1 with fail
   generalize w.alloc (.cells (rqC k o a b m l u) 42) = w1 at HD1 HR1 HO1 ⊢
   have c0 := HD1.out.blk.cell 0 rfl
   have c1 := HD1.out.blk.cell 1 rfl
   have c4 := HD1.out.blk.cell 4 rfl
   have r2 := HR1.out.cell 2 rfl
   have r3 := HR1.out.cell 3 rfl
   have r4 := HR1.out.cell 4 rfl
   have r6 := HR1.out.cell 6 rfl
   have q1 := decide_eq_true ha
   clear hc
   go_quiet (fail)
   go_wp2
   go_ret
   exact drE_no (by omega) (HD1.out.drewN _) (HO1.out.drewN _)
 · obtain ⟨zs, ps, now⟩ := s
   obtain ⟨k, o, a, b, m, l, u⟩ := r
   obtain ⟨A, cap, rfl, hr, _, _, hnil⟩ := h.oa.form
   obtain ⟨B, d, rfl, hrp, _, _, hpnil⟩ := h.op.form
   have hlen := right_len hrt
   dsimp only at *
   obtain ⟨n, hn⟩ : ∃ n, zs.length = n := ⟨_, rfl⟩
   obtain ⟨q, hq⟩ : ∃ q, ps.length = q := ⟨_, rfl⟩
   simp only [hn, hq] at hc hp64 h hlen hnil hpnil ⊢
   have HD1 := Lib.hid (h.alloc (.cells (rqC k o a b m l u) 42))
   have HR1 := Lib.hid (Blk.new w 42 (rqC k o a b m l u))
   have HO1 := Lib.hid (h.on ((Below.refl _ _).alloc (Nat.le_refl _) (.cells (rqC k o a b m l u) 42)))
   have HRT := Lib.hid hrt
   have HN := Lib.hid hn
   have HQ := Lib.hid hq
   have HNIL := Lib.hid hnil
   unfold Rq.val
   dsimp only
   clear h hr hrp hnil hpnil hn hq hrt
   go_enter Tryz.func157, Tryz.ntmps157
   go_upto_region 1 with fail
   generalize w.alloc (.cells (rqC k o a b m l u) 42) = w1 at HD1 HR1 HO1 ⊢
   have c0 := HD1.out.blk.cell 0 rfl
   have c1 := HD1.out.blk.cell 1 rfl
   have c4 := HD1.out.blk.cell 4 rfl
   have r2 := HR1.out.cell 2 rfl
   have r3 := HR1.out.cell 3 rfl
   have r4 := HR1.out.cell 4 rfl
   have r6 := HR1.out.cell 6 rfl
   have q1 := decide_eq_false ha
   have q2 : decide ((q : Int) ≤ a) = true := decide_eq_true (by omega)
   clear hc
   go_quiet (fail)
   go_wp2
   go_ret
   exact drE_no (by omega) (HD1.out.drewN _) (HO1.out.drewN _)
set_option maxRecDepth 100000 in
set_option maxHeartbeats 2000000 in
theorem ochange_do (F : Nat → Prop) (g : Nat) (va vp X Y : Value) (s : St) (r : Rq) (w : World) (h : Dr F w g va vp X Y s) (hrt : rightB s.acs = true) (hp64 : s.pys.length ≤ 2000000) (K : FuncId) (HC : ∀ args W, (callFunc K args).run Tryz.prog W = .ok (.enter K args) W) (hfx : ∀ (A : Option Addr) (n cap : Nat) (zs : List Ac) (p : Py) (x : Int) (W : World), zs.length = n → RdA W A zs → n ≤ 5864062014805 → (A = none → n = 0 ∧ cap = 0) → Curs zs → rightB zs = true → Calls Tryz.prog K #[.slice A n cap, p.val, .int .i64 x] W (FxRes (accE zs p r.op x) (accL zs p r.op x) W)) (hc : 0 ≤ r.a ∧ r.a < (s.pys.length : Int)) (E : Int) (hE : payE (pyAt s.pys r.a) r.op r.amt = E) (hE0 : ¬ E = 0) :
  Calls Tryz.prog 157 #[.pointer (some ⟨g, 0, none⟩), r.val, .func (.func K) #[] #[]] w (DrE F w g X Y s E) := by
 have HHF := Lib.hid hfx
 clear hfx
 obtain ⟨j, hj⟩ : ∃ j : Nat, r.a = (j : Int) := ⟨r.a.toNat, by omega⟩
 obtain ⟨p, hpy⟩ : ∃ p, s.pys[j]? = some p := ⟨_, List.getElem?_eq_getElem (by omega)⟩
 have hpa : pyAt s.pys r.a = p := by rw [hj]; exact pyAt_at hpy
 rw [hpa] at hE
 clear hpa
 have hjl : j < s.pys.length := by omega
 clear hc
 obtain ⟨zs, ps, now⟩ := s
 obtain ⟨k, o, a, b, m, l, u⟩ := r
 obtain ⟨A, cap, rfl, hr, _, _, hnil⟩ := h.oa.form
 obtain ⟨bb, d, rfl, _, hbw, _, _⟩ := h.op.open_ (by omega)
 have hbp := h.pg bb rfl
 have hgw : g < w.heap.size := h.blk.lt
 have hlen := right_len hrt
 dsimp only at *
 subst hj
 obtain ⟨n, hn⟩ : ∃ n, zs.length = n := ⟨_, rfl⟩
 obtain ⟨q, hq⟩ : ∃ q, ps.length = q := ⟨_, rfl⟩
 simp only [hn, hq] at hp64 hjl h hlen hnil ⊢
 have HD1 := Lib.hid (h.alloc (.cells (rqC k o (j : Int) b m l u) 42))
 have HR1 := Lib.hid (Blk.new w 42 (rqC k o (j : Int) b m l u))
 have HO1 := Lib.hid (h.on ((Below.refl _ _).alloc (Nat.le_refl _) (.cells (rqC k o (j : Int) b m l u) 42)))
 have HRT := Lib.hid hrt
 have HN := Lib.hid hn
 have HQ := Lib.hid hq
 have HNIL := Lib.hid hnil
 unfold Rq.val
 dsimp only
 clear h hr hnil hn hq hrt
 go_enter Tryz.func157, Tryz.ntmps157
 go_upto_region 1 with fail
 generalize w.alloc (.cells (rqC k o (j : Int) b m l u) 42) = w1 at HD1 HR1 HO1 ⊢
 have c0 := HD1.out.blk.cell 0 rfl
 have c1 := HD1.out.blk.cell 1 rfl
 have c4 := HD1.out.blk.cell 4 rfl
 have r2 := HR1.out.cell 2 rfl
 have r3 := HR1.out.cell 3 rfl
 have r4 := HR1.out.cell 4 rfl
 have r6 := HR1.out.cell 6 rfl
 obtain ⟨pf, pd, pa, pc, pr, pg, pt, pst⟩ := p
 have HPY := Lib.hid hpy
 clear hpy
 have q1 : decide ((j : Int) < 0) = false := decide_eq_false (by omega)
 have q2 : decide ((q : Int) ≤ (j : Int)) = false := decide_eq_false (by omega)
 have HDO := Lib.hid (fun Wx => do_any ⟨pf, pd, pa, pc, pr, pg, pt, pst⟩ o m Wx)
 unfold PayRes at HDO
 unfold payR at HDO
 rw [hE, if_neg hE0, errV, if_neg hE0] at HDO
 unfold Py.zero at HDO
 have HE := Lib.hid hE0
 clear hE hE0
 unfold Py.val at HDO
 dsimp only at HDO
 go_quiet (fail)
 have HD2 := Lib.hid (HD1.out.drewN nq)
 have HR2 := Lib.hid (HR1.out.drewN nq)
 have HO2 := Lib.hid (HO1.out.drewN nq)
 clear c0 c1 c4 r2 r3 r4 r6
 generalize w1.drewN nq = w2 at HD2 HR2 HO2 ⊢
 go_upto_region 3 with fail
 refine wp_region_held_drew (S := fun w' => Below w2.heap.size w2 w') (by kernel_rfl) (Below.refl _ _).drew (fun hHeld => ?_)
 refine tk 0 25 (v := ?_) ?_ ?_
 rotate_left
 · intro w' hSw
   go_simp
   (try with_reducible rfl)
 (try simp only [Act.put, sA, sB, sC])
 refine tk 1 26 (v := ?_) ?_ ?_
 rotate_left
 · intro w' hSw
   go_simp
   (try with_reducible rfl)
 (try simp only [Act.put, sA, sB, sC])
 refine tk 2 27 (v := ?_) ?_ ?_
 rotate_left
 · intro w' hSw
   go_simp
   (try with_reducible rfl)
 (try simp only [Act.put, sA, sB, sC])
 refine tk 3 28 (v := ?_) ?_ ?_
 rotate_left
 · intro w' hSw
   have hSw' := hSw
   (try dsimp only at hSw')
   have k1 := (HD2.out.below hSw').blk.cell 1 rfl
   go_simp
   (try with_reducible rfl)
 (try simp only [Act.put, sA, sB, sC])
 refine tk 4 29 (v := ?_) ?_ ?_
 rotate_left
 · intro w' hSw
   go_simp
   (try with_reducible rfl)
 (try simp only [Act.put, sA, sB, sC])
 refine tk 5 30 (v := ?_) ?_ ?_
 rotate_left
 · intro w' hSw
   have hSw' := hSw
   (try dsimp only at hSw')
   have k2 := (HR2.out.later hSw').cell 2 rfl
   go_simp
   (try with_reducible rfl)
 (try simp only [Act.put, sA, sB, sC])
 refine tk 6 31 (v := ?_) ?_ ?_
 rotate_left
 · intro w' hSw
   go_simp
   (try with_reducible rfl)
 (try simp only [Act.put, sA, sB, sC])
 refine tk 7 32 (v := ?_) ?_ ?_
 rotate_left
 · intro w' hSw
   have hSw' := hSw
   (try dsimp only at hSw')
   obtain ⟨p0, p1, p2, p3, p4, p5, p6, p7⟩ := pays_at (HD2.out.below hSw').op HPY.out
   dsimp only at p0 p1 p2 p3 p4 p5 p6 p7
   go_simp
   (try with_reducible rfl)
 (try simp only [Act.put, sA, sB, sC])
 refine wpAnyH_ready (rs := [8]) (by kernel_rfl) (by simp) ?_
 refine AllReadyH.cons (i := 8) rfl (fun K hK => ?_) AllReadyH.nil
 go_simp
 refine hK.out _ _ (hHeld.alloc (by simp) _) (fun hHeld => ?_)
 clear hK K
 (try simp only [Act.put, sA, sB, sC])
 have HZ := Lib.hid (Blk.new w2 96 #[.int .i64 0, .int .i64 0, .int .i64 0, .int .i64 0, .int .i64 0, .int .i64 0, .int .i64 0, .int .i64 0]).drew
 obtain ⟨z0, z1, z2, z3, z4, z5, z6, z7⟩ := (show _ ∧ _ ∧ _ ∧ _ ∧ _ ∧ _ ∧ _ ∧ _ from ⟨HZ.out.cell 0 rfl, HZ.out.cell 1 rfl, HZ.out.cell 2 rfl, HZ.out.cell 3 rfl, HZ.out.cell 4 rfl, HZ.out.cell 5 rfl, HZ.out.cell 6 rfl, HZ.out.cell 7 rfl⟩)
 obtain ⟨f0, f1, f2, f3, f4, f5, f6, f7⟩ := (show _ ∧ _ ∧ _ ∧ _ ∧ _ ∧ _ ∧ _ ∧ _ from ⟨HZ.out.loose 0, HZ.out.loose 1, HZ.out.loose 2, HZ.out.loose 3, HZ.out.loose 4, HZ.out.loose 5, HZ.out.loose 6, HZ.out.loose 7⟩)
 refine wpAnyH_ready (rs := [9]) (by kernel_rfl) (by simp) ?_
 refine AllReadyH.cons (i := 9) rfl (fun K hK => ?_) AllReadyH.nil
 go_simp
 refine hK.out _ _ (show Below w2.heap.size w2 (w2.alloc (.cells #[.int .i64 pf, .int .i64 pd, .int .i64 pa, .int .i64 pc, .int .i64 pr, .int .i64 pg, .int .i64 pt, .int .i64 pst] 96)).drew from ((Below.refl _ _).alloc (Nat.le_refl _) _).drew) (fun hHeld => ?_)
 clear hK K
 (try simp only [Act.put, sA, sB, sC])
 refine wpAnyH_done (by kernel_rfl) ?_ _
 have HB3 := Lib.hid hHeld
 have HP3 := Lib.hid (Blk.new w2 96 #[.int .i64 pf, .int .i64 pd, .int .i64 pa, .int .i64 pc, .int .i64 pr, .int .i64 pg, .int .i64 pt, .int .i64 pst]).drew
 clear hHeld HZ z0 f0 z1 f1 z2 f2 z3 f3 z4 f4 z5 f5 z6 f6 z7 f7
 generalize (w2.alloc (.cells #[.int .i64 pf, .int .i64 pd, .int .i64 pa, .int .i64 pc, .int .i64 pr, .int .i64 pg, .int .i64 pt, .int .i64 pst] 96)).drew = w3 at HB3 HP3 ⊢
 have HD3 := Lib.hid (HD2.out.below HB3.out)
 have HR3 := Lib.hid (HR2.out.later HB3.out)
 have HO3 := Lib.hid (HO2.out.trans (HD2.out.on HB3.out))
 have hg3 : w.heap.size ≤ w2.heap.size := HO2.out.size
 generalize w2.heap.size = gp at HP3 HB3 hg3 ⊢
 obtain ⟨p0, p1, p2, p3, p4, p5, p6, p7⟩ := (show _ ∧ _ ∧ _ ∧ _ ∧ _ ∧ _ ∧ _ ∧ _ from ⟨HP3.out.cell 0 rfl, HP3.out.cell 1 rfl, HP3.out.cell 2 rfl, HP3.out.cell 3 rfl, HP3.out.cell 4 rfl, HP3.out.cell 5 rfl, HP3.out.cell 6 rfl, HP3.out.cell 7 rfl⟩)
 have r1 := HR3.out.cell 1 rfl
 have r4 := HR3.out.cell 4 rfl
 go_wp2_with (first
   | (go_at_call 172; refine (HDO.out _).mono ?_; rintro _ w4 ⟨rfl, hb4⟩
      have HB4 := Lib.hid hb4
      clear hb4))
 go_ret
 exact drE_no HE.out ((HD3.out.below HB4.out).alloc _) ((HO3.out.trans (HD3.out.on HB4.out)).trans (On.of ((Below.refl _ _).alloc (Nat.le_refl _) _) (fun k hk => Nat.lt_of_lt_of_le (HD3.out.lt k hk) HB4.out.size)))
set_option maxRecDepth 100000 in
set_option maxHeartbeats 2000000 in
theorem ochange_acc (F : Nat → Prop) (g : Nat) (va vp X Y : Value) (s : St) (r : Rq) (w : World) (h : Dr F w g va vp X Y s) (hrt : rightB s.acs = true) (hp64 : s.pys.length ≤ 2000000) (K : FuncId) (HC : ∀ args W, (callFunc K args).run Tryz.prog W = .ok (.enter K args) W) (hfx : ∀ (A : Option Addr) (n cap : Nat) (zs : List Ac) (p : Py) (x : Int) (W : World), zs.length = n → RdA W A zs → n ≤ 5864062014805 → (A = none → n = 0 ∧ cap = 0) → Curs zs → rightB zs = true → Calls Tryz.prog K #[.slice A n cap, p.val, .int .i64 x] W (FxRes (accE zs p r.op x) (accL zs p r.op x) W)) (hc : 0 ≤ r.a ∧ r.a < (s.pys.length : Int)) (hP : payE (pyAt s.pys r.a) r.op r.amt = 0) (E : Int) (hE : accE s.acs (pyAt s.pys r.a) r.op r.amt = E) (hE0 : ¬ E = 0) :
  Calls Tryz.prog 157 #[.pointer (some ⟨g, 0, none⟩), r.val, .func (.func K) #[] #[]] w (DrE F w g X Y s E) := by
 have HHF := Lib.hid hfx
 clear hfx
 obtain ⟨j, hj⟩ : ∃ j : Nat, r.a = (j : Int) := ⟨r.a.toNat, by omega⟩
 obtain ⟨p, hpy⟩ : ∃ p, s.pys[j]? = some p := ⟨_, List.getElem?_eq_getElem (by omega)⟩
 have hpa : pyAt s.pys r.a = p := by rw [hj]; exact pyAt_at hpy
 rw [hpa] at hP hE
 clear hpa
 have hjl : j < s.pys.length := by omega
 clear hc
 obtain ⟨zs, ps, now⟩ := s
 obtain ⟨k, o, a, b, m, l, u⟩ := r
 obtain ⟨A, cap, rfl, hr, _, _, hnil⟩ := h.oa.form
 obtain ⟨bb, d, rfl, _, hbw, _, _⟩ := h.op.open_ (by omega)
 have hbp := h.pg bb rfl
 have hgw : g < w.heap.size := h.blk.lt
 have hlen := right_len hrt
 dsimp only at *
 subst hj
 obtain ⟨n, hn⟩ : ∃ n, zs.length = n := ⟨_, rfl⟩
 obtain ⟨q, hq⟩ : ∃ q, ps.length = q := ⟨_, rfl⟩
 simp only [hn, hq] at hp64 hjl h hlen hnil ⊢
 have HD1 := Lib.hid (h.alloc (.cells (rqC k o (j : Int) b m l u) 42))
 have HR1 := Lib.hid (Blk.new w 42 (rqC k o (j : Int) b m l u))
 have HO1 := Lib.hid (h.on ((Below.refl _ _).alloc (Nat.le_refl _) (.cells (rqC k o (j : Int) b m l u) 42)))
 have HRT := Lib.hid hrt
 have HN := Lib.hid hn
 have HQ := Lib.hid hq
 have HNIL := Lib.hid hnil
 unfold Rq.val
 dsimp only
 clear h hr hnil hn hq hrt
 go_enter Tryz.func157, Tryz.ntmps157
 go_upto_region 1 with fail
 generalize w.alloc (.cells (rqC k o (j : Int) b m l u) 42) = w1 at HD1 HR1 HO1 ⊢
 have c0 := HD1.out.blk.cell 0 rfl
 have c1 := HD1.out.blk.cell 1 rfl
 have c4 := HD1.out.blk.cell 4 rfl
 have r2 := HR1.out.cell 2 rfl
 have r3 := HR1.out.cell 3 rfl
 have r4 := HR1.out.cell 4 rfl
 have r6 := HR1.out.cell 6 rfl
 obtain ⟨pf, pd, pa, pc, pr, pg, pt, pst⟩ := p
 obtain ⟨⟨qf, qd, qa, qc, qr, qg, qt, qs⟩, hq'⟩ : ∃ p', payP ⟨pf, pd, pa, pc, pr, pg, pt, pst⟩ o m = p' := ⟨_, rfl⟩
 have HFX := Lib.hid (fun W (hr' : RdA W A zs) => HHF.out A n cap zs ⟨pf, pd, pa, pc, pr, pg, pt, pst⟩ m W HN.out hr' (by omega) HNIL.out (right_curs HRT.out) HRT.out)
 unfold FxRes at HFX
 rw [hE, errV, if_neg hE0] at HFX
 have HE := Lib.hid hE0
 clear hE hE0
 have HPY := Lib.hid hpy
 clear hpy
 have q1 : decide ((j : Int) < 0) = false := decide_eq_false (by omega)
 have q2 : decide ((q : Int) ≤ (j : Int)) = false := decide_eq_false (by omega)
 have HDO := Lib.hid (fun Wx => do_any ⟨pf, pd, pa, pc, pr, pg, pt, pst⟩ o m Wx)
 unfold PayRes at HDO
 unfold payR at HDO
 rw [hP, if_pos rfl, hq', errV, if_pos rfl] at HDO
 clear hP
 unfold Py.val at HDO
 dsimp only at HDO
 go_quiet (fail)
 have HD2 := Lib.hid (HD1.out.drewN nq)
 have HR2 := Lib.hid (HR1.out.drewN nq)
 have HO2 := Lib.hid (HO1.out.drewN nq)
 clear c0 c1 c4 r2 r3 r4 r6
 generalize w1.drewN nq = w2 at HD2 HR2 HO2 ⊢
 go_upto_region 3 with fail
 refine wp_region_held_drew (S := fun w' => Below w2.heap.size w2 w') (by kernel_rfl) (Below.refl _ _).drew (fun hHeld => ?_)
 refine tk 0 25 (v := ?_) ?_ ?_
 rotate_left
 · intro w' hSw
   go_simp
   (try with_reducible rfl)
 (try simp only [Act.put, sA, sB, sC])
 refine tk 1 26 (v := ?_) ?_ ?_
 rotate_left
 · intro w' hSw
   go_simp
   (try with_reducible rfl)
 (try simp only [Act.put, sA, sB, sC])
 refine tk 2 27 (v := ?_) ?_ ?_
 rotate_left
 · intro w' hSw
   go_simp
   (try with_reducible rfl)
 (try simp only [Act.put, sA, sB, sC])
 refine tk 3 28 (v := ?_) ?_ ?_
 rotate_left
 · intro w' hSw
   have hSw' := hSw
   (try dsimp only at hSw')
   have k1 := (HD2.out.below hSw').blk.cell 1 rfl
   go_simp
   (try with_reducible rfl)
 (try simp only [Act.put, sA, sB, sC])
 refine tk 4 29 (v := ?_) ?_ ?_
 rotate_left
 · intro w' hSw
   go_simp
   (try with_reducible rfl)
 (try simp only [Act.put, sA, sB, sC])
 refine tk 5 30 (v := ?_) ?_ ?_
 rotate_left
 · intro w' hSw
   have hSw' := hSw
   (try dsimp only at hSw')
   have k2 := (HR2.out.later hSw').cell 2 rfl
   go_simp
   (try with_reducible rfl)
 (try simp only [Act.put, sA, sB, sC])
 refine tk 6 31 (v := ?_) ?_ ?_
 rotate_left
 · intro w' hSw
   go_simp
   (try with_reducible rfl)
 (try simp only [Act.put, sA, sB, sC])
 refine tk 7 32 (v := ?_) ?_ ?_
 rotate_left
 · intro w' hSw
   have hSw' := hSw
   (try dsimp only at hSw')
   obtain ⟨p0, p1, p2, p3, p4, p5, p6, p7⟩ := pays_at (HD2.out.below hSw').op HPY.out
   dsimp only at p0 p1 p2 p3 p4 p5 p6 p7
   go_simp
   (try with_reducible rfl)
 (try simp only [Act.put, sA, sB, sC])
 refine wpAnyH_ready (rs := [8]) (by kernel_rfl) (by simp) ?_
 refine AllReadyH.cons (i := 8) rfl (fun K hK => ?_) AllReadyH.nil
 go_simp
 refine hK.out _ _ (hHeld.alloc (by simp) _) (fun hHeld => ?_)
 clear hK K
 (try simp only [Act.put, sA, sB, sC])
 have HZ := Lib.hid (Blk.new w2 96 #[.int .i64 0, .int .i64 0, .int .i64 0, .int .i64 0, .int .i64 0, .int .i64 0, .int .i64 0, .int .i64 0]).drew
 obtain ⟨z0, z1, z2, z3, z4, z5, z6, z7⟩ := (show _ ∧ _ ∧ _ ∧ _ ∧ _ ∧ _ ∧ _ ∧ _ from ⟨HZ.out.cell 0 rfl, HZ.out.cell 1 rfl, HZ.out.cell 2 rfl, HZ.out.cell 3 rfl, HZ.out.cell 4 rfl, HZ.out.cell 5 rfl, HZ.out.cell 6 rfl, HZ.out.cell 7 rfl⟩)
 obtain ⟨f0, f1, f2, f3, f4, f5, f6, f7⟩ := (show _ ∧ _ ∧ _ ∧ _ ∧ _ ∧ _ ∧ _ ∧ _ from ⟨HZ.out.loose 0, HZ.out.loose 1, HZ.out.loose 2, HZ.out.loose 3, HZ.out.loose 4, HZ.out.loose 5, HZ.out.loose 6, HZ.out.loose 7⟩)
 refine wpAnyH_ready (rs := [9]) (by kernel_rfl) (by simp) ?_
 refine AllReadyH.cons (i := 9) rfl (fun K hK => ?_) AllReadyH.nil
 go_simp
 refine hK.out _ _ (show Below w2.heap.size w2 (w2.alloc (.cells #[.int .i64 pf, .int .i64 pd, .int .i64 pa, .int .i64 pc, .int .i64 pr, .int .i64 pg, .int .i64 pt, .int .i64 pst] 96)).drew from ((Below.refl _ _).alloc (Nat.le_refl _) _).drew) (fun hHeld => ?_)
 clear hK K
 (try simp only [Act.put, sA, sB, sC])
 refine wpAnyH_done (by kernel_rfl) ?_ _
 have HB3 := Lib.hid hHeld
 have HP3 := Lib.hid (Blk.new w2 96 #[.int .i64 pf, .int .i64 pd, .int .i64 pa, .int .i64 pc, .int .i64 pr, .int .i64 pg, .int .i64 pt, .int .i64 pst]).drew
 clear hHeld HZ z0 f0 z1 f1 z2 f2 z3 f3 z4 f4 z5 f5 z6 f6 z7 f7
 generalize (w2.alloc (.cells #[.int .i64 pf, .int .i64 pd, .int .i64 pa, .int .i64 pc, .int .i64 pr, .int .i64 pg, .int .i64 pt, .int .i64 pst] 96)).drew = w3 at HB3 HP3 ⊢
 have HD3 := Lib.hid (HD2.out.below HB3.out)
 have HR3 := Lib.hid (HR2.out.later HB3.out)
 have HO3 := Lib.hid (HO2.out.trans (HD2.out.on HB3.out))
 have hg3 : w.heap.size ≤ w2.heap.size := HO2.out.size
 generalize w2.heap.size = gp at HP3 HB3 hg3 ⊢
 obtain ⟨p0, p1, p2, p3, p4, p5, p6, p7⟩ := (show _ ∧ _ ∧ _ ∧ _ ∧ _ ∧ _ ∧ _ ∧ _ from ⟨HP3.out.cell 0 rfl, HP3.out.cell 1 rfl, HP3.out.cell 2 rfl, HP3.out.cell 3 rfl, HP3.out.cell 4 rfl, HP3.out.cell 5 rfl, HP3.out.cell 6 rfl, HP3.out.cell 7 rfl⟩)
 have r1 := HR3.out.cell 1 rfl
 have r4 := HR3.out.cell 4 rfl
 go_upto_region 7 with (first
   | (go_at_call 172; refine (HDO.out _).mono ?_; rintro _ w4 ⟨rfl, hb4⟩
      have HB4 := Lib.hid hb4
      clear hb4))
 have HP5 := Lib.hid ((HP3.out.later HB4.out).more (.cells #[.int .i64 qf, .int .i64 qd, .int .i64 qa, .int .i64 qc, .int .i64 qr, .int .i64 qg, .int .i64 qt, .int .i64 qs] 96))
 have HQ5 := Lib.hid (Blk.new w4 96 #[.int .i64 qf, .int .i64 qd, .int .i64 qa, .int .i64 qc, .int .i64 qr, .int .i64 qg, .int .i64 qt, .int .i64 qs])
 have HD5 := Lib.hid ((HD3.out.below HB4.out).alloc (.cells #[.int .i64 qf, .int .i64 qd, .int .i64 qa, .int .i64 qc, .int .i64 qr, .int .i64 qg, .int .i64 qt, .int .i64 qs] 96))
 have HR5 := Lib.hid ((HR3.out.later HB4.out).more (.cells #[.int .i64 qf, .int .i64 qd, .int .i64 qa, .int .i64 qc, .int .i64 qr, .int .i64 qg, .int .i64 qt, .int .i64 qs] 96))
 have HO5 := Lib.hid ((HO3.out.trans (HD3.out.on HB4.out)).trans (On.of ((Below.refl _ _).alloc (Nat.le_refl _) (.cells #[.int .i64 qf, .int .i64 qd, .int .i64 qa, .int .i64 qc, .int .i64 qr, .int .i64 qg, .int .i64 qt, .int .i64 qs] 96)) (fun k hk => Nat.lt_of_lt_of_le (HD3.out.lt k hk) HB4.out.size)))
 clear p0 p1 p2 p3 p4 p5 p6 p7 r1 r4
 have hg4 : w.heap.size ≤ w4.heap.size := Nat.le_trans HO3.out.size HB4.out.size
 clear HB4
 generalize w4.alloc (.cells #[.int .i64 qf, .int .i64 qd, .int .i64 qa, .int .i64 qc, .int .i64 qr, .int .i64 qg, .int .i64 qt, .int .i64 qs] 96) = w5 at HP5 HQ5 HD5 HR5 HO5 ⊢
 generalize w4.heap.size = gq at HQ5 hg4 ⊢
 refine wp_region_held_drew (S := fun w' => Below w5.heap.size w5 w') (by kernel_rfl) (Below.refl _ _).drew (fun hHeld => ?_)
 refine tk 0 46 (v := ?_) ?_ ?_
 rotate_left
 · intro w' hSw
   go_simp
   (try with_reducible rfl)
 (try simp only [Act.put, sA, sB, sC])
 refine tk 1 47 (v := ?_) ?_ ?_
 rotate_left
 · intro w' hSw
   go_simp
   (try with_reducible rfl)
 (try simp only [Act.put, sA, sB, sC])
 refine tk 2 48 (v := ?_) ?_ ?_
 rotate_left
 · intro w' hSw
   go_simp
   (try with_reducible rfl)
 (try simp only [Act.put, sA, sB, sC])
 refine tk 3 49 (v := ?_) ?_ ?_
 rotate_left
 · intro w' hSw
   go_simp
   (try with_reducible rfl)
 (try simp only [Act.put, sA, sB, sC])
 refine tk 4 50 (v := ?_) ?_ ?_
 rotate_left
 · intro w' hSw
   have hSw' := hSw
   (try dsimp only at hSw')
   have k0 := (HD5.out.below hSw').blk.cell 0 rfl
   go_simp
   (try with_reducible rfl)
 (try simp only [Act.put, sA, sB, sC])
 refine tk 5 51 (v := ?_) ?_ ?_
 rotate_left
 · intro w' hSw
   have hSw' := hSw
   (try dsimp only at hSw')
   obtain ⟨p0, p1, p2, p3, p4, p5, p6, p7⟩ := (show _ ∧ _ ∧ _ ∧ _ ∧ _ ∧ _ ∧ _ ∧ _ from ⟨(HP5.out.later hSw').cell 0 rfl, (HP5.out.later hSw').cell 1 rfl, (HP5.out.later hSw').cell 2 rfl, (HP5.out.later hSw').cell 3 rfl, (HP5.out.later hSw').cell 4 rfl, (HP5.out.later hSw').cell 5 rfl, (HP5.out.later hSw').cell 6 rfl, (HP5.out.later hSw').cell 7 rfl⟩)
   go_simp
   (try with_reducible rfl)
 (try simp only [Act.put, sA, sB, sC])
 refine tk 6 52 (v := ?_) ?_ ?_
 rotate_left
 · intro w' hSw
   go_simp
   (try with_reducible rfl)
 (try simp only [Act.put, sA, sB, sC])
 refine tk 7 53 (v := ?_) ?_ ?_
 rotate_left
 · intro w' hSw
   have hSw' := hSw
   (try dsimp only at hSw')
   have k4 := (HR5.out.later hSw').cell 4 rfl
   go_simp
   (try with_reducible rfl)
 (try simp only [Act.put, sA, sB, sC])
 refine wpAnyH_ready (rs := [8]) (by kernel_rfl) (by simp) ?_
 refine AllReadyH.cons (i := 8) rfl (fun K hK => ?_) AllReadyH.nil
 go_simp
 refine (HFX.out _ HD5.out.oa.rd.drew).mono ?_
 rintro _ w6 ⟨v6, rfl, ho6, hb6⟩
 have hb6' : Below w5.heap.size w5 w6 := (Below.refl w5.heap.size w5).drew.trans hb6
 refine hK.out _ _ hb6' (fun hHeld => ?_)
 clear hK K
 (try simp only [Act.put, sA, sB, sC])
 refine tk 9 45 (v := ?_) ?_ ?_
 rotate_left
 · intro w' hSw
   go_simp
   (try with_reducible rfl)
 (try simp only [Act.put, sA, sB, sC])
 refine tk 10 55 (v := ?_) ?_ ?_
 rotate_left
 · intro w' hSw
   go_simp
   (try with_reducible rfl)
 (try simp only [Act.put, sA, sB, sC])
 refine tk 11 56 (v := ?_) ?_ ?_
 rotate_left
 · intro w' hSw
   go_simp
   (try with_reducible rfl)
 (try simp only [Act.put, sA, sB, sC])
 refine tk 12 10 (v := ?_) ?_ ?_
 rotate_left
 · intro w' hSw
   go_simp
   (try with_reducible rfl)
 (try simp only [Act.put, sA, sB, sC])
 refine tk 13 9 (v := ?_) ?_ ?_
 rotate_left
 · intro w' hSw
   go_simp
   (try with_reducible rfl)
 (try simp only [Act.put, sA, sB, sC])
 refine wpAnyH_done (by kernel_rfl) ?_ _
 go_wp2
 go_ret
 exact drE_no HE.out (HD5.out.below hb6') (HO5.out.trans (HD5.out.on hb6'))
set_option maxRecDepth 100000 in
set_option maxHeartbeats 2000000 in
theorem ochange_ok (F : Nat → Prop) (g : Nat) (va vp X Y : Value) (s : St) (r : Rq) (w : World) (h : Dr F w g va vp X Y s) (hrt : rightB s.acs = true) (hp64 : s.pys.length ≤ 2000000) (K : FuncId) (HC : ∀ args W, (callFunc K args).run Tryz.prog W = .ok (.enter K args) W) (hfx : ∀ (A : Option Addr) (n cap : Nat) (zs : List Ac) (p : Py) (x : Int) (W : World), zs.length = n → RdA W A zs → n ≤ 5864062014805 → (A = none → n = 0 ∧ cap = 0) → Curs zs → rightB zs = true → Calls Tryz.prog K #[.slice A n cap, p.val, .int .i64 x] W (FxRes (accE zs p r.op x) (accL zs p r.op x) W)) (hc : 0 ≤ r.a ∧ r.a < (s.pys.length : Int)) (hP : payE (pyAt s.pys r.a) r.op r.amt = 0) (hE : accE s.acs (pyAt s.pys r.a) r.op r.amt = 0) (ys : List Ac) (hys : accL s.acs (pyAt s.pys r.a) r.op r.amt = ys) (qv : Py) (hq' : payP (pyAt s.pys r.a) r.op r.amt = qv) :
  Calls Tryz.prog 157 #[.pointer (some ⟨g, 0, none⟩), r.val, .func (.func K) #[] #[]] w (DrE F w g X Y ⟨ys, s.pys.set r.a.toNat qv, s.now⟩ 0) := by
 have HHF := Lib.hid hfx
 clear hfx
 obtain ⟨qf, qd, qa, qc, qr, qg, qt, qs⟩ := qv
 obtain ⟨j, hj⟩ : ∃ j : Nat, r.a = (j : Int) := ⟨r.a.toNat, by omega⟩
 obtain ⟨p, hpy⟩ : ∃ p, s.pys[j]? = some p := ⟨_, List.getElem?_eq_getElem (by omega)⟩
 have hpa : pyAt s.pys r.a = p := by rw [hj]; exact pyAt_at hpy
 rw [hpa] at hP hE hys hq'
 clear hpa
 have hjl : j < s.pys.length := by omega
 clear hc
 obtain ⟨zs, ps, now⟩ := s
 obtain ⟨k, o, a, b, m, l, u⟩ := r
 obtain ⟨A, cap, rfl, hr, _, _, hnil⟩ := h.oa.form
 obtain ⟨bb, d, rfl, _, hbw, _, _⟩ := h.op.open_ (by omega)
 have hbp := h.pg bb rfl
 have hgw : g < w.heap.size := h.blk.lt
 have hlen := right_len hrt
 dsimp only at *
 subst hj
 obtain ⟨n, hn⟩ : ∃ n, zs.length = n := ⟨_, rfl⟩
 obtain ⟨q, hq⟩ : ∃ q, ps.length = q := ⟨_, rfl⟩
 simp only [hn, hq, Int.toNat_natCast] at hp64 hjl h hlen hnil ⊢
 have HD1 := Lib.hid (h.alloc (.cells (rqC k o (j : Int) b m l u) 42))
 have HR1 := Lib.hid (Blk.new w 42 (rqC k o (j : Int) b m l u))
 have HO1 := Lib.hid (h.on ((Below.refl _ _).alloc (Nat.le_refl _) (.cells (rqC k o (j : Int) b m l u) 42)))
 have HRT := Lib.hid hrt
 have HN := Lib.hid hn
 have HQ := Lib.hid hq
 have HNIL := Lib.hid hnil
 unfold Rq.val
 dsimp only
 clear h hr hnil hn hq hrt
 go_enter Tryz.func157, Tryz.ntmps157
 go_upto_region 1 with fail
 generalize w.alloc (.cells (rqC k o (j : Int) b m l u) 42) = w1 at HD1 HR1 HO1 ⊢
 have c0 := HD1.out.blk.cell 0 rfl
 have c1 := HD1.out.blk.cell 1 rfl
 have c4 := HD1.out.blk.cell 4 rfl
 have r2 := HR1.out.cell 2 rfl
 have r3 := HR1.out.cell 3 rfl
 have r4 := HR1.out.cell 4 rfl
 have r6 := HR1.out.cell 6 rfl
 obtain ⟨pf, pd, pa, pc, pr, pg, pt, pst⟩ := p
 have HFX := Lib.hid (fun W (hr' : RdA W A zs) => HHF.out A n cap zs ⟨pf, pd, pa, pc, pr, pg, pt, pst⟩ m W HN.out hr' (by omega) HNIL.out (right_curs HRT.out) HRT.out)
 unfold FxRes at HFX
 rw [hE, show errV 0 = .nilIface from rfl, hys] at HFX
 clear hE hys
 obtain ⟨n6, hn6⟩ : ∃ n6, ys.length = n6 := ⟨_, rfl⟩
 have HN6 := Lib.hid hn6
 clear hn6
 have HPY := Lib.hid hpy
 clear hpy
 have q1 : decide ((j : Int) < 0) = false := decide_eq_false (by omega)
 have q2 : decide ((q : Int) ≤ (j : Int)) = false := decide_eq_false (by omega)
 have HDO := Lib.hid (fun Wx => do_any ⟨pf, pd, pa, pc, pr, pg, pt, pst⟩ o m Wx)
 unfold PayRes at HDO
 unfold payR at HDO
 rw [hP, if_pos rfl, hq', errV, if_pos rfl] at HDO
 clear hP
 unfold Py.val at HDO
 dsimp only at HDO
 go_quiet (fail)
 have HD2 := Lib.hid (HD1.out.drewN nq)
 have HR2 := Lib.hid (HR1.out.drewN nq)
 have HO2 := Lib.hid (HO1.out.drewN nq)
 clear c0 c1 c4 r2 r3 r4 r6
 generalize w1.drewN nq = w2 at HD2 HR2 HO2 ⊢
 go_upto_region 3 with fail
 refine wp_region_held_drew (S := fun w' => Below w2.heap.size w2 w') (by kernel_rfl) (Below.refl _ _).drew (fun hHeld => ?_)
 refine tk 0 25 (v := ?_) ?_ ?_
 rotate_left
 · intro w' hSw
   go_simp
   (try with_reducible rfl)
 (try simp only [Act.put, sA, sB, sC])
 refine tk 1 26 (v := ?_) ?_ ?_
 rotate_left
 · intro w' hSw
   go_simp
   (try with_reducible rfl)
 (try simp only [Act.put, sA, sB, sC])
 refine tk 2 27 (v := ?_) ?_ ?_
 rotate_left
 · intro w' hSw
   go_simp
   (try with_reducible rfl)
 (try simp only [Act.put, sA, sB, sC])
 refine tk 3 28 (v := ?_) ?_ ?_
 rotate_left
 · intro w' hSw
   have hSw' := hSw
   (try dsimp only at hSw')
   have k1 := (HD2.out.below hSw').blk.cell 1 rfl
   go_simp
   (try with_reducible rfl)
 (try simp only [Act.put, sA, sB, sC])
 refine tk 4 29 (v := ?_) ?_ ?_
 rotate_left
 · intro w' hSw
   go_simp
   (try with_reducible rfl)
 (try simp only [Act.put, sA, sB, sC])
 refine tk 5 30 (v := ?_) ?_ ?_
 rotate_left
 · intro w' hSw
   have hSw' := hSw
   (try dsimp only at hSw')
   have k2 := (HR2.out.later hSw').cell 2 rfl
   go_simp
   (try with_reducible rfl)
 (try simp only [Act.put, sA, sB, sC])
 refine tk 6 31 (v := ?_) ?_ ?_
 rotate_left
 · intro w' hSw
   go_simp
   (try with_reducible rfl)
 (try simp only [Act.put, sA, sB, sC])
 refine tk 7 32 (v := ?_) ?_ ?_
 rotate_left
 · intro w' hSw
   have hSw' := hSw
   (try dsimp only at hSw')
   obtain ⟨p0, p1, p2, p3, p4, p5, p6, p7⟩ := pays_at (HD2.out.below hSw').op HPY.out
   dsimp only at p0 p1 p2 p3 p4 p5 p6 p7
   go_simp
   (try with_reducible rfl)
 (try simp only [Act.put, sA, sB, sC])
 refine wpAnyH_ready (rs := [8]) (by kernel_rfl) (by simp) ?_
 refine AllReadyH.cons (i := 8) rfl (fun K hK => ?_) AllReadyH.nil
 go_simp
 refine hK.out _ _ (hHeld.alloc (by simp) _) (fun hHeld => ?_)
 clear hK K
 (try simp only [Act.put, sA, sB, sC])
 have HZ := Lib.hid (Blk.new w2 96 #[.int .i64 0, .int .i64 0, .int .i64 0, .int .i64 0, .int .i64 0, .int .i64 0, .int .i64 0, .int .i64 0]).drew
 obtain ⟨z0, z1, z2, z3, z4, z5, z6, z7⟩ := (show _ ∧ _ ∧ _ ∧ _ ∧ _ ∧ _ ∧ _ ∧ _ from ⟨HZ.out.cell 0 rfl, HZ.out.cell 1 rfl, HZ.out.cell 2 rfl, HZ.out.cell 3 rfl, HZ.out.cell 4 rfl, HZ.out.cell 5 rfl, HZ.out.cell 6 rfl, HZ.out.cell 7 rfl⟩)
 obtain ⟨f0, f1, f2, f3, f4, f5, f6, f7⟩ := (show _ ∧ _ ∧ _ ∧ _ ∧ _ ∧ _ ∧ _ ∧ _ from ⟨HZ.out.loose 0, HZ.out.loose 1, HZ.out.loose 2, HZ.out.loose 3, HZ.out.loose 4, HZ.out.loose 5, HZ.out.loose 6, HZ.out.loose 7⟩)
 refine wpAnyH_ready (rs := [9]) (by kernel_rfl) (by simp) ?_
 refine AllReadyH.cons (i := 9) rfl (fun K hK => ?_) AllReadyH.nil
 go_simp
 refine hK.out _ _ (show Below w2.heap.size w2 (w2.alloc (.cells #[.int .i64 pf, .int .i64 pd, .int .i64 pa, .int .i64 pc, .int .i64 pr, .int .i64 pg, .int .i64 pt, .int .i64 pst] 96)).drew from ((Below.refl _ _).alloc (Nat.le_refl _) _).drew) (fun hHeld => ?_)
 clear hK K
 (try simp only [Act.put, sA, sB, sC])
 refine wpAnyH_done (by kernel_rfl) ?_ _
 have HB3 := Lib.hid hHeld
 have HP3 := Lib.hid (Blk.new w2 96 #[.int .i64 pf, .int .i64 pd, .int .i64 pa, .int .i64 pc, .int .i64 pr, .int .i64 pg, .int .i64 pt, .int .i64 pst]).drew
 clear hHeld HZ z0 f0 z1 f1 z2 f2 z3 f3 z4 f4 z5 f5 z6 f6 z7 f7
 generalize (w2.alloc (.cells #[.int .i64 pf, .int .i64 pd, .int .i64 pa, .int .i64 pc, .int .i64 pr, .int .i64 pg, .int .i64 pt, .int .i64 pst] 96)).drew = w3 at HB3 HP3 ⊢
 have HD3 := Lib.hid (HD2.out.below HB3.out)
 have HR3 := Lib.hid (HR2.out.later HB3.out)
 have HO3 := Lib.hid (HO2.out.trans (HD2.out.on HB3.out))
 have hg3 : w.heap.size ≤ w2.heap.size := HO2.out.size
 generalize w2.heap.size = gp at HP3 HB3 hg3 ⊢
 obtain ⟨p0, p1, p2, p3, p4, p5, p6, p7⟩ := (show _ ∧ _ ∧ _ ∧ _ ∧ _ ∧ _ ∧ _ ∧ _ from ⟨HP3.out.cell 0 rfl, HP3.out.cell 1 rfl, HP3.out.cell 2 rfl, HP3.out.cell 3 rfl, HP3.out.cell 4 rfl, HP3.out.cell 5 rfl, HP3.out.cell 6 rfl, HP3.out.cell 7 rfl⟩)
 have r1 := HR3.out.cell 1 rfl
 have r4 := HR3.out.cell 4 rfl
 go_upto_region 7 with (first
   | (go_at_call 172; refine (HDO.out _).mono ?_; rintro _ w4 ⟨rfl, hb4⟩
      have HB4 := Lib.hid hb4
      clear hb4))
 have HP5 := Lib.hid ((HP3.out.later HB4.out).more (.cells #[.int .i64 qf, .int .i64 qd, .int .i64 qa, .int .i64 qc, .int .i64 qr, .int .i64 qg, .int .i64 qt, .int .i64 qs] 96))
 have HQ5 := Lib.hid (Blk.new w4 96 #[.int .i64 qf, .int .i64 qd, .int .i64 qa, .int .i64 qc, .int .i64 qr, .int .i64 qg, .int .i64 qt, .int .i64 qs])
 have HD5 := Lib.hid ((HD3.out.below HB4.out).alloc (.cells #[.int .i64 qf, .int .i64 qd, .int .i64 qa, .int .i64 qc, .int .i64 qr, .int .i64 qg, .int .i64 qt, .int .i64 qs] 96))
 have HR5 := Lib.hid ((HR3.out.later HB4.out).more (.cells #[.int .i64 qf, .int .i64 qd, .int .i64 qa, .int .i64 qc, .int .i64 qr, .int .i64 qg, .int .i64 qt, .int .i64 qs] 96))
 have HO5 := Lib.hid ((HO3.out.trans (HD3.out.on HB4.out)).trans (On.of ((Below.refl _ _).alloc (Nat.le_refl _) (.cells #[.int .i64 qf, .int .i64 qd, .int .i64 qa, .int .i64 qc, .int .i64 qr, .int .i64 qg, .int .i64 qt, .int .i64 qs] 96)) (fun k hk => Nat.lt_of_lt_of_le (HD3.out.lt k hk) HB4.out.size)))
 clear p0 p1 p2 p3 p4 p5 p6 p7 r1 r4
 have hg4 : w.heap.size ≤ w4.heap.size := Nat.le_trans HO3.out.size HB4.out.size
 clear HB4
 generalize w4.alloc (.cells #[.int .i64 qf, .int .i64 qd, .int .i64 qa, .int .i64 qc, .int .i64 qr, .int .i64 qg, .int .i64 qt, .int .i64 qs] 96) = w5 at HP5 HQ5 HD5 HR5 HO5 ⊢
 generalize w4.heap.size = gq at HQ5 hg4 ⊢
 refine wp_region_held_drew (S := fun w' => Below w5.heap.size w5 w') (by kernel_rfl) (Below.refl _ _).drew (fun hHeld => ?_)
 refine tk 0 46 (v := ?_) ?_ ?_
 rotate_left
 · intro w' hSw
   go_simp
   (try with_reducible rfl)
 (try simp only [Act.put, sA, sB, sC])
 refine tk 1 47 (v := ?_) ?_ ?_
 rotate_left
 · intro w' hSw
   go_simp
   (try with_reducible rfl)
 (try simp only [Act.put, sA, sB, sC])
 refine tk 2 48 (v := ?_) ?_ ?_
 rotate_left
 · intro w' hSw
   go_simp
   (try with_reducible rfl)
 (try simp only [Act.put, sA, sB, sC])
 refine tk 3 49 (v := ?_) ?_ ?_
 rotate_left
 · intro w' hSw
   go_simp
   (try with_reducible rfl)
 (try simp only [Act.put, sA, sB, sC])
 refine tk 4 50 (v := ?_) ?_ ?_
 rotate_left
 · intro w' hSw
   have hSw' := hSw
   (try dsimp only at hSw')
   have k0 := (HD5.out.below hSw').blk.cell 0 rfl
   go_simp
   (try with_reducible rfl)
 (try simp only [Act.put, sA, sB, sC])
 refine tk 5 51 (v := ?_) ?_ ?_
 rotate_left
 · intro w' hSw
   have hSw' := hSw
   (try dsimp only at hSw')
   obtain ⟨p0, p1, p2, p3, p4, p5, p6, p7⟩ := (show _ ∧ _ ∧ _ ∧ _ ∧ _ ∧ _ ∧ _ ∧ _ from ⟨(HP5.out.later hSw').cell 0 rfl, (HP5.out.later hSw').cell 1 rfl, (HP5.out.later hSw').cell 2 rfl, (HP5.out.later hSw').cell 3 rfl, (HP5.out.later hSw').cell 4 rfl, (HP5.out.later hSw').cell 5 rfl, (HP5.out.later hSw').cell 6 rfl, (HP5.out.later hSw').cell 7 rfl⟩)
   go_simp
   (try with_reducible rfl)
 (try simp only [Act.put, sA, sB, sC])
 refine tk 6 52 (v := ?_) ?_ ?_
 rotate_left
 · intro w' hSw
   go_simp
   (try with_reducible rfl)
 (try simp only [Act.put, sA, sB, sC])
 refine tk 7 53 (v := ?_) ?_ ?_
 rotate_left
 · intro w' hSw
   have hSw' := hSw
   (try dsimp only at hSw')
   have k4 := (HR5.out.later hSw').cell 4 rfl
   go_simp
   (try with_reducible rfl)
 (try simp only [Act.put, sA, sB, sC])
 refine wpAnyH_ready (rs := [8]) (by kernel_rfl) (by simp) ?_
 refine AllReadyH.cons (i := 8) rfl (fun K hK => ?_) AllReadyH.nil
 go_simp
 refine (HFX.out _ HD5.out.oa.rd.drew).mono ?_
 rintro _ w6 ⟨v6, rfl, ho6, hb6⟩
 have hb6' : Below w5.heap.size w5 w6 := (Below.refl w5.heap.size w5).drew.trans hb6
 refine hK.out _ _ hb6' (fun hHeld => ?_)
 clear hK K
 (try simp only [Act.put, sA, sB, sC])
 refine tk 9 45 (v := ?_) ?_ ?_
 rotate_left
 · intro w' hSw
   go_simp
   (try with_reducible rfl)
 (try simp only [Act.put, sA, sB, sC])
 refine tk 10 55 (v := ?_) ?_ ?_
 rotate_left
 · intro w' hSw
   go_simp
   (try with_reducible rfl)
 (try simp only [Act.put, sA, sB, sC])
 refine tk 11 56 (v := ?_) ?_ ?_
 rotate_left
 · intro w' hSw
   go_simp
   (try with_reducible rfl)
 (try simp only [Act.put, sA, sB, sC])
 refine tk 12 10 (v := ?_) ?_ ?_
 rotate_left
 · intro w' hSw
   go_simp
   (try with_reducible rfl)
 (try simp only [Act.put, sA, sB, sC])
 refine tk 13 9 (v := ?_) ?_ ?_
 rotate_left
 · intro w' hSw
   go_simp
   (try with_reducible rfl)
 (try simp only [Act.put, sA, sB, sC])
 refine wpAnyH_done (by kernel_rfl) ?_ _
 replace ho6 := ho6 (by trivial)
 have HS6 := Lib.hid (HD5.out.setA hb6' ho6)
 obtain ⟨A6, cap6, hv6, _, _, _, _⟩ := ho6.form
 rw [HN6.out] at hv6
 subst hv6
 have HR6 := Lib.hid ((HR5.out.later hb6').setOther (b := g) (by omega) 0 (.slice A6 n6 cap6))
 have HQ6 := Lib.hid ((HQ5.out.later hb6').setOther (b := g) (by omega) 0 (.slice A6 n6 cap6))
 have k0 := (HD5.out.below hb6').blk.cell 0 rfl
 have k1 := (HD5.out.below hb6').blk.loose 0
 go_upto_region 11 with fail
 have HD7 := Lib.hid HS6.out.1
 have HO7 := Lib.hid (HO5.out.trans HS6.out.2)
 clear ho6 hb6 hb6' HS6 k0 k1 hHeld
 generalize w6.setCell ⟨g, 0, none⟩ (.slice A6 n6 cap6) = w7 at HD7 HO7 HR6 HQ6 ⊢
 obtain ⟨e0, e1, e2, e3, e4, e5, e6, e7⟩ := pays_at HD7.out.op HPY.out
 dsimp only at e0 e1 e2 e3 e4 e5 e6 e7
 obtain ⟨f0, f1, f2, f3, f4, f5, f6, f7⟩ := (show _ ∧ _ ∧ _ ∧ _ ∧ _ ∧ _ ∧ _ ∧ _ from ⟨HD7.out.op.unfrozen HQ.out.symm (j * 8), HD7.out.op.unfrozen HQ.out.symm (j * 8 + 1), HD7.out.op.unfrozen HQ.out.symm (j * 8 + 2), HD7.out.op.unfrozen HQ.out.symm (j * 8 + 3), HD7.out.op.unfrozen HQ.out.symm (j * 8 + 4), HD7.out.op.unfrozen HQ.out.symm (j * 8 + 5), HD7.out.op.unfrozen HQ.out.symm (j * 8 + 6), HD7.out.op.unfrozen HQ.out.symm (j * 8 + 7)⟩)
 have HPU := Lib.hid (pays_put (y := ⟨qf, qd, qa, qc, qr, qg, qt, qs⟩) HD7.out.op HQ.out.symm HPY.out)
 dsimp only at HPU
 refine wp_region_held_drew (S := fun w' => Blk w' g 171 _ ∧ Blk w' w.heap.size 42 (rqC k o (j : Int) b m l u) ∧ Blk w' gq 96 #[.int .i64 qf, .int .i64 qd, .int .i64 qa, .int .i64 qc, .int .i64 qr, .int .i64 qg, .int .i64 qt, .int .i64 qs]) (by kernel_rfl) ⟨HD7.out.blk.drew, HR6.out.drew, HQ6.out.drew⟩ (fun hHeld => ?_)
 refine tk 0 64 (v := ?_) ?_ ?_
 rotate_left
 · intro w' hSw
   go_simp
   (try with_reducible rfl)
 (try simp only [Act.put, sA, sB, sC])
 refine tk 1 65 (v := ?_) ?_ ?_
 rotate_left
 · intro w' hSw
   go_simp
   (try with_reducible rfl)
 (try simp only [Act.put, sA, sB, sC])
 refine tk 2 66 (v := ?_) ?_ ?_
 rotate_left
 · intro w' hSw
   go_simp
   (try with_reducible rfl)
 (try simp only [Act.put, sA, sB, sC])
 refine tk 3 67 (v := ?_) ?_ ?_
 rotate_left
 · intro w' hSw
   have hSw' := hSw
   (try dsimp only at hSw')
   have k1 := hSw'.1.cell 1 rfl
   go_simp
   (try with_reducible rfl)
 (try simp only [Act.put, sA, sB, sC])
 refine tk 4 68 (v := ?_) ?_ ?_
 rotate_left
 · intro w' hSw
   go_simp
   (try with_reducible rfl)
 (try simp only [Act.put, sA, sB, sC])
 refine tk 5 69 (v := ?_) ?_ ?_
 rotate_left
 · intro w' hSw
   have hSw' := hSw
   (try dsimp only at hSw')
   have k2 := hSw'.2.1.cell 2 rfl
   go_simp
   (try with_reducible rfl)
 (try simp only [Act.put, sA, sB, sC])
 refine tk 6 70 (v := ?_) ?_ ?_
 rotate_left
 · intro w' hSw
   have hSw' := hSw
   (try dsimp only at hSw')
   obtain ⟨k0, k1, k2, k3, k4, k5, k6, k7⟩ := (show _ ∧ _ ∧ _ ∧ _ ∧ _ ∧ _ ∧ _ ∧ _ from ⟨hSw'.2.2.cell 0 rfl, hSw'.2.2.cell 1 rfl, hSw'.2.2.cell 2 rfl, hSw'.2.2.cell 3 rfl, hSw'.2.2.cell 4 rfl, hSw'.2.2.cell 5 rfl, hSw'.2.2.cell 6 rfl, hSw'.2.2.cell 7 rfl⟩)
   go_simp
   (try with_reducible rfl)
 (try simp only [Act.put, sA, sB, sC])
 refine tk 7 71 (v := ?_) ?_ ?_
 rotate_left
 · intro w' hSw
   go_simp
   (try with_reducible rfl)
 (try simp only [Act.put, sA, sB, sC])
 refine wpAnyH_ready (rs := [8]) (by kernel_rfl) (by simp) ?_
 refine AllReadyH.cons (i := 8) rfl (fun K hK => ?_) AllReadyH.nil
 go_simp
 refine hK.out _ (((((((((w7).setCell ⟨bb, j * 8, none⟩ (.int .i64 qf)).setCell ⟨bb, j * 8 + 1, none⟩ (.int .i64 qd)).setCell ⟨bb, j * 8 + 2, none⟩ (.int .i64 qa)).setCell ⟨bb, j * 8 + 3, none⟩ (.int .i64 qc)).setCell ⟨bb, j * 8 + 4, none⟩ (.int .i64 qr)).setCell ⟨bb, j * 8 + 5, none⟩ (.int .i64 qg)).setCell ⟨bb, j * 8 + 6, none⟩ (.int .i64 qt)).setCell ⟨bb, j * 8 + 7, none⟩ (.int .i64 qs)).drew ⟨(py_other HD7.out.blk (by omega) (.int .i64 qf) (.int .i64 qd) (.int .i64 qa) (.int .i64 qc) (.int .i64 qr) (.int .i64 qg) (.int .i64 qt) (.int .i64 qs)).drew, (py_other HR6.out (by omega) (.int .i64 qf) (.int .i64 qd) (.int .i64 qa) (.int .i64 qc) (.int .i64 qr) (.int .i64 qg) (.int .i64 qt) (.int .i64 qs)).drew, (py_other HQ6.out (by omega) (.int .i64 qf) (.int .i64 qd) (.int .i64 qa) (.int .i64 qc) (.int .i64 qr) (.int .i64 qg) (.int .i64 qt) (.int .i64 qs)).drew⟩ (fun hHeld => ?_)
 clear hK K
 (try simp only [Act.put, sA, sB, sC])
 refine wpAnyH_done (by kernel_rfl) ?_ _
 have HX := Lib.hid (HD7.out.setP HPU.out (py_on (On.refl _ w7) (by simp) (.int .i64 qf) (.int .i64 qd) (.int .i64 qa) (.int .i64 qc) (.int .i64 qr) (.int .i64 qg) (.int .i64 qt) (.int .i64 qs)))
 have HOX := Lib.hid HX.out.2.drew
 have HDX := Lib.hid HX.out.1.drew
 clear hHeld HX HPU
 generalize (((((((((w7).setCell ⟨bb, j * 8, none⟩ (.int .i64 qf)).setCell ⟨bb, j * 8 + 1, none⟩ (.int .i64 qd)).setCell ⟨bb, j * 8 + 2, none⟩ (.int .i64 qa)).setCell ⟨bb, j * 8 + 3, none⟩ (.int .i64 qc)).setCell ⟨bb, j * 8 + 4, none⟩ (.int .i64 qr)).setCell ⟨bb, j * 8 + 5, none⟩ (.int .i64 qg)).setCell ⟨bb, j * 8 + 6, none⟩ (.int .i64 qt)).setCell ⟨bb, j * 8 + 7, none⟩ (.int .i64 qs)).drew = w8 at HDX HOX ⊢
 go_wp2
 go_ret
 exact ⟨_, _, rfl, HDX.out, HO7.out.trans HOX.out⟩
theorem ochange_any (F : Nat → Prop) (g : Nat) (va vp X Y : Value) (s : St) (r : Rq) (w : World) (h : Dr F w g va vp X Y s) (hrt : rightB s.acs = true) (hp64 : s.pys.length ≤ 2000000) (K : FuncId) (HC : ∀ args W, (callFunc K args).run Tryz.prog W = .ok (.enter K args) W) (hfx : ∀ (A : Option Addr) (n cap : Nat) (zs : List Ac) (p : Py) (x : Int) (W : World), zs.length = n → RdA W A zs → n ≤ 5864062014805 → (A = none → n = 0 ∧ cap = 0) → Curs zs → rightB zs = true → Calls Tryz.prog K #[.slice A n cap, p.val, .int .i64 x] W (FxRes (accE zs p r.op x) (accL zs p r.op x) W)) (h47 : 4 ≤ r.op ∧ r.op ≤ 7) :
  Calls Tryz.prog 157 #[.pointer (some ⟨g, 0, none⟩), r.val, .func (.func K) #[] #[]] w (DrE F w g X Y (opS s r) (opE s r)) := by
 have hE : opE s r = payOpE s r := by unfold opE; rw [if_neg (by omega), if_neg (by omega), if_neg (by omega), if_neg (by omega), if_pos (by omega)]
 have hT : opT s r = ⟨accL s.acs (pyAt s.pys r.a) r.op r.amt, s.pys.set r.a.toNat (payP (pyAt s.pys r.a) r.op r.amt), s.now⟩ := by unfold opT; rw [if_neg (by omega), if_neg (by omega), if_neg (by omega), if_neg (by omega)]
 by_cases hc : 0 ≤ r.a ∧ r.a < (s.pys.length : Int)
 · have hE2 : payOpE s r = if payE (pyAt s.pys r.a) r.op r.amt = 0 then accE s.acs (pyAt s.pys r.a) r.op r.amt else payE (pyAt s.pys r.a) r.op r.amt := by unfold payOpE; rw [if_pos hc]
   by_cases hP : payE (pyAt s.pys r.a) r.op r.amt = 0
   · rw [if_pos hP] at hE2
     by_cases hA : accE s.acs (pyAt s.pys r.a) r.op r.amt = 0
     · have hz : opE s r = 0 := by rw [hE, hE2, hA]
       rw [opS_yes hz, hz, hT]
       exact ochange_ok F g va vp X Y s r w h hrt hp64 K HC hfx hc hP hA _ rfl _ rfl
     · rw [opS_no (by rw [hE, hE2]; exact hA), hE, hE2]
       exact ochange_acc F g va vp X Y s r w h hrt hp64 K HC hfx hc hP _ rfl hA
   · rw [if_neg hP] at hE2
     rw [opS_no (by rw [hE, hE2]; exact hP), hE, hE2]
     exact ochange_do F g va vp X Y s r w h hrt hp64 K HC hfx hc _ rfl hP
 · have hE2 : payOpE s r = 2 := by unfold payOpE; rw [if_neg hc]
   rw [opS_no (by rw [hE, hE2]; decide), hE, hE2]
   exact ochange_no F g va vp X Y s r w h hrt hp64 K HC hfx hc
set_option maxRecDepth 100000 in
theorem ocapture_any (F : Nat → Prop) (g : Nat) (va vp X Y : Value) (s : St) (r : Rq) (w : World) (h : Dr F w g va vp X Y s) (hrt : rightB s.acs = true) (h0 : r.op = 4) (hp64 : s.pys.length ≤ 2000000) :
  Calls Tryz.prog 135 #[.pointer (some ⟨g, 0, none⟩), r.val] w (DrI F w g X Y (opS s r) (opI s r) (opE s r)) := by
 have hI : opI s r = 0 := by
  unfold opI
  by_cases hz : opE s r = 0
  · rw [if_pos hz, if_neg (by omega), if_neg (by omega)]
  · rw [if_neg hz]
 rw [hI]
 have HCH := Lib.hid (fun W (hd : Dr F W g va vp X Y s) => ochange_any F g va vp X Y s r W hd hrt hp64 158 (fun args W => by kernel_rfl) (fun A n cap zs p x W hl hr hn hnil hcu hrt => by rw [h0]; exact captured_any A n cap zs p x W hl hr hn hnil hcu) (by omega))
 obtain ⟨T, hT⟩ : ∃ T, opS s r = T := ⟨_, rfl⟩
 obtain ⟨E, hE⟩ : ∃ E, opE s r = E := ⟨_, rfl⟩
 rw [hT, hE] at HCH ⊢
 unfold DrE at HCH
 have HD := Lib.hid h
 obtain ⟨k, o, a, b, m, l, u⟩ := r
 unfold Rq.val at HCH ⊢
 dsimp only at HCH ⊢
 clear hI hT hE h h0
 go_enter Tryz.func135, Tryz.ntmps135
 go_wp2_with (first
   | (go_at_call 157; refine (HCH.out _ (HD.out.alloc _)).mono ?_; rintro _ w2 ⟨va2, vp2, rfl, hd2, ho2⟩))
 go_ret2
 exact ⟨_, _, rfl, hd2, (HD.out.on ((Below.refl _ _).alloc (Nat.le_refl _) _)).trans ho2⟩
set_option maxRecDepth 100000 in
theorem ovoid_any (F : Nat → Prop) (g : Nat) (va vp X Y : Value) (s : St) (r : Rq) (w : World) (h : Dr F w g va vp X Y s) (hrt : rightB s.acs = true) (h0 : r.op = 5) (hp64 : s.pys.length ≤ 2000000) :
  Calls Tryz.prog 136 #[.pointer (some ⟨g, 0, none⟩), r.val] w (DrI F w g X Y (opS s r) (opI s r) (opE s r)) := by
 have hI : opI s r = 0 := by
  unfold opI
  by_cases hz : opE s r = 0
  · rw [if_pos hz, if_neg (by omega), if_neg (by omega)]
  · rw [if_neg hz]
 rw [hI]
 have HCH := Lib.hid (fun W (hd : Dr F W g va vp X Y s) => ochange_any F g va vp X Y s r W hd hrt hp64 159 (fun args W => by kernel_rfl) (fun A n cap zs p x W hl hr hn hnil hcu hrt => by rw [h0]; exact voided_any A n cap zs p x W hl hr hn hnil) (by omega))
 obtain ⟨T, hT⟩ : ∃ T, opS s r = T := ⟨_, rfl⟩
 obtain ⟨E, hE⟩ : ∃ E, opE s r = E := ⟨_, rfl⟩
 rw [hT, hE] at HCH ⊢
 unfold DrE at HCH
 have HD := Lib.hid h
 obtain ⟨k, o, a, b, m, l, u⟩ := r
 unfold Rq.val at HCH ⊢
 dsimp only at HCH ⊢
 clear hI hT hE h h0
 go_enter Tryz.func136, Tryz.ntmps136
 go_wp2_with (first
   | (go_at_call 157; refine (HCH.out _ (HD.out.alloc _)).mono ?_; rintro _ w2 ⟨va2, vp2, rfl, hd2, ho2⟩))
 go_ret2
 exact ⟨_, _, rfl, hd2, (HD.out.on ((Below.refl _ _).alloc (Nat.le_refl _) _)).trans ho2⟩
set_option maxRecDepth 100000 in
theorem orefund_any (F : Nat → Prop) (g : Nat) (va vp X Y : Value) (s : St) (r : Rq) (w : World) (h : Dr F w g va vp X Y s) (hrt : rightB s.acs = true) (h0 : r.op = 6) (hp64 : s.pys.length ≤ 2000000) :
  Calls Tryz.prog 137 #[.pointer (some ⟨g, 0, none⟩), r.val] w (DrI F w g X Y (opS s r) (opI s r) (opE s r)) := by
 have hI : opI s r = 0 := by
  unfold opI
  by_cases hz : opE s r = 0
  · rw [if_pos hz, if_neg (by omega), if_neg (by omega)]
  · rw [if_neg hz]
 rw [hI]
 have HCH := Lib.hid (fun W (hd : Dr F W g va vp X Y s) => ochange_any F g va vp X Y s r W hd hrt hp64 160 (fun args W => by kernel_rfl) (fun A n cap zs p x W hl hr hn hnil hcu hrt => by rw [h0]; exact refunded_any A n cap zs p x W hl hr hn hnil hcu) (by omega))
 obtain ⟨T, hT⟩ : ∃ T, opS s r = T := ⟨_, rfl⟩
 obtain ⟨E, hE⟩ : ∃ E, opE s r = E := ⟨_, rfl⟩
 rw [hT, hE] at HCH ⊢
 unfold DrE at HCH
 have HD := Lib.hid h
 obtain ⟨k, o, a, b, m, l, u⟩ := r
 unfold Rq.val at HCH ⊢
 dsimp only at HCH ⊢
 clear hI hT hE h h0
 go_enter Tryz.func137, Tryz.ntmps137
 go_wp2_with (first
   | (go_at_call 157; refine (HCH.out _ (HD.out.alloc _)).mono ?_; rintro _ w2 ⟨va2, vp2, rfl, hd2, ho2⟩))
 go_ret2
 exact ⟨_, _, rfl, hd2, (HD.out.on ((Below.refl _ _).alloc (Nat.le_refl _) _)).trans ho2⟩
set_option maxRecDepth 100000 in
theorem ocharge_any (F : Nat → Prop) (g : Nat) (va vp X Y : Value) (s : St) (r : Rq) (w : World) (h : Dr F w g va vp X Y s) (hrt : rightB s.acs = true) (h0 : r.op = 7) (hp64 : s.pys.length ≤ 2000000) :
  Calls Tryz.prog 138 #[.pointer (some ⟨g, 0, none⟩), r.val] w (DrI F w g X Y (opS s r) (opI s r) (opE s r)) := by
 have hI : opI s r = 0 := by
  unfold opI
  by_cases hz : opE s r = 0
  · rw [if_pos hz, if_neg (by omega), if_neg (by omega)]
  · rw [if_neg hz]
 rw [hI]
 have HCH := Lib.hid (fun W (hd : Dr F W g va vp X Y s) => ochange_any F g va vp X Y s r W hd hrt hp64 161 (fun args W => by kernel_rfl) (fun A n cap zs p x W hl hr hn hnil hcu hrt => by rw [h0]; exact charged_any A n cap zs p x W hl hr hn hnil hcu hrt) (by omega))
 obtain ⟨T, hT⟩ : ∃ T, opS s r = T := ⟨_, rfl⟩
 obtain ⟨E, hE⟩ : ∃ E, opE s r = E := ⟨_, rfl⟩
 rw [hT, hE] at HCH ⊢
 unfold DrE at HCH
 have HD := Lib.hid h
 obtain ⟨k, o, a, b, m, l, u⟩ := r
 unfold Rq.val at HCH ⊢
 dsimp only at HCH ⊢
 clear hI hT hE h h0
 go_enter Tryz.func138, Tryz.ntmps138
 go_wp2_with (first
   | (go_at_call 157; refine (HCH.out _ (HD.out.alloc _)).mono ?_; rintro _ w2 ⟨va2, vp2, rfl, hd2, ho2⟩))
 go_ret2
 exact ⟨_, _, rfl, hd2, (HD.out.on ((Below.refl _ _).alloc (Nat.le_refl _) _)).trans ho2⟩
end Go.Proofs.YteifgmdaggiaaaaGreatDoor
