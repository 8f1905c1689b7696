/-
  A saga's next step: the engine's step by its contract.
-/
import Derived.Test.YteifgmdaggiaaaaGreatDoorWEngBeg
import Derived.Test.YteifgmdaggiaaaaGreatDoorWEngWith
set_option linter.unusedSimpArgs false
namespace Go.Proofs.YteifgmdaggiaaaaGreatDoor
open Go Go.RowKit
set_option linter.unusedVariables false
/-- An event, and the state that it comes to. -/
def hapC (V : Sv) (e : Ev) : Array Value := #[.slice V.A V.n V.c, .slice V.B V.q V.d, .slice V.X V.xn V.xc, .slice V.Y V.yn V.yc, .int .i64 V.t, .int .i64 e.what, .int .i64 e.rq.key, .int .i64 e.rq.op, .int .i64 e.rq.a, .int .i64 e.rq.b, .int .i64 e.rq.amt, .int .i64 e.rq.legs, .int .i64 e.rq.til, .int .i64 e.key, .bool e.ok]
theorem stp_none {X : Eg} {key : Int} {ok : Bool} (h : findS X.sl key = none) : stpO X key ok = ⟨X, 2, 0⟩ := by unfold stpO; rw [h]
theorem stp_some {X : Eg} {key : Int} {ok : Bool} {i : Nat} {s : Sg} (h : findS X.sl key = some i) (hs : X.sl[i]? = some s) : stpO X key ok = stepAt X i s ok := by
 unfold stpO
 rw [h]
 dsimp only
 rw [List.getD_eq_getElem?_getD, hs]
 rfl
theorem EgO.egb {w w' : World} {base : Nat} {V : Sv} {O : Eo} {e : Ending} (h : EgO w V O e w') (hb : base ≤ w.heap.size) (hx : ∀ k, (Value.slice V.X V.xn V.xc).ownBlock = some k → base ≤ k) : EgB w base V O e w' := by
 obtain ⟨V', h1, h2, h3, h4⟩ := h
 exact ⟨V', h1, h2, h3.below (fun k hk => ⟨by omega, fun e => by have := hx k e; omega⟩), fun p hp hq => h4 p (fun b hb' => hp b (by omega)) hq⟩
set_option maxRecDepth 100000 in
set_option maxHeartbeats 4000000 in
theorem estep_any (V : Sv) (T : St) (sl : List Sg) (kl : List Kn) (e : Ev) (w : World) (h : SkAt w V T sl kl) (hf : Fits T sl kl) (hkl : kl.length ≤ 1000000) (hh : HasErr w) :
  Calls Tryz.prog 81 #[.agg (hapC V e)] w (EgB w w.heap.size V (stpO ⟨T, sl, kl⟩ e.key e.ok)) := by
 have HFI := Lib.hid (fun W (hb : Below w.heap.size w W) => efind_any V T sl kl e.key W (h.below hb) hf.sl)
 have HCL := Lib.hid (fun W (hb : Below w.heap.size w W) => clone_known (.slice V.Y V.yn V.yc) kl W (h.below hb).ry (by omega))
 have HWI := Lib.hid (fun W (hb : Below w.heap.size w W) (K : Option Addr) (kn kc : Nat) (hk : RdS known W K kl) (hkn : kl.length = kn) (hks : Sl K kn kc) => ewith_any V T sl kl kl K kn kc W (h.below hb) hf hk hkn hks)
 have HUN := Lib.hid (fun W V' (b i : Nat) (s : Sg) (h' : SkAt W V' T sl kl) (ha : Apart W V' b sl) (hb : b ≤ W.heap.size) (hp : sl[i]? = some s) => eundo_any V' T sl kl i s b W h' ha hb hp hf hkl)
 have HSE := Lib.hid (fun W V' (b i : Nat) (s : Sg) (h' : SkAt W V' T sl kl) (ha : Apart W V' b sl) (hb : b ≤ W.heap.size) (hp : sl[i]? = some s) (hh' : HasErr W) => esettle_any V' T sl kl i s b W h' ha hb hp hf hkl hh')
 have HGO := Lib.hid (fun W V' (b i : Nat) (s : Sg) (h' : SkAt W V' T sl kl) (ha : Apart W V' b sl) (hi : i < sl.length) (hb : b ≤ W.heap.size) => (egoon_any V' T sl kl i s b W h' ha hi hf.sl).mono fun x w' hx => hx.egb hb ha.own.rowLt)
 have HH := Lib.hid hh
 have HV_0 := Lib.hid h
 have HL_0 := Lib.hid (Below.refl w.heap.size w)
 have hsl := hf.sl
 obtain ⟨O, hO⟩ : ∃ O, stpO ⟨T, sl, kl⟩ e.key e.ok = O := ⟨_, rfl⟩
 rw [hO]
 have HO := Lib.hid hO
 obtain ⟨A0, n0, c0, B0, q0, d0, X0, xn0, xc0, Y0, yn0, yc0, t0⟩ := V
 obtain ⟨what, ⟨rk, ro, ra, rb, rm, rl, ru⟩, key, ok⟩ := e
 unfold EgB hapC
 unfold Sv.val Sv.cells at HFI
 unfold Sv.val Sv.cells at HWI
 dsimp only at HFI HCL HWI HO ⊢
 clear h hf hh hO
 go_enter Tryz.func81, Tryz.ntmps81
 go_upto_region 1 with fail
 have al := (Below.refl w.heap.size w).alloc (Nat.le_refl _) (.cells #[.slice A0 n0 c0, .slice B0 q0 d0, .slice X0 xn0 xc0, .slice Y0 yn0 yc0, .int .i64 t0, .int .i64 what, .int .i64 rk, .int .i64 ro, .int .i64 ra, .int .i64 rb, .int .i64 rm, .int .i64 rl, .int .i64 ru, .int .i64 key, .bool ok] 118)
 replace al := al.alloc (by simp; try omega) (.cells st0 35)
 replace al := al.alloc (by simp; try omega) (.cells rp0 46)
 have nb0 := ((Blk.new w 118 #[.slice A0 n0 c0, .slice B0 q0 d0, .slice X0 xn0 xc0, .slice Y0 yn0 yc0, .int .i64 t0, .int .i64 what, .int .i64 rk, .int .i64 ro, .int .i64 ra, .int .i64 rb, .int .i64 rm, .int .i64 rl, .int .i64 ru, .int .i64 key, .bool ok]).more (.cells st0 35)).more (.cells rp0 46)
 have nb1 := (Blk.new (w.alloc (.cells #[.slice A0 n0 c0, .slice B0 q0 d0, .slice X0 xn0 xc0, .slice Y0 yn0 yc0, .int .i64 t0, .int .i64 what, .int .i64 rk, .int .i64 ro, .int .i64 ra, .int .i64 rb, .int .i64 rm, .int .i64 rl, .int .i64 ru, .int .i64 key, .bool ok] 118)) 35 st0).more (.cells rp0 46)
 rw [alloc_size] at nb1
 have nb2 := Blk.new ((w.alloc (.cells #[.slice A0 n0 c0, .slice B0 q0 d0, .slice X0 xn0 xc0, .slice Y0 yn0 yc0, .int .i64 t0, .int .i64 what, .int .i64 rk, .int .i64 ro, .int .i64 ra, .int .i64 rb, .int .i64 rm, .int .i64 rl, .int .i64 ru, .int .i64 key, .bool ok] 118)).alloc (.cells st0 35)) 46 rp0
 rw [alloc_size, alloc_size] at nb2
 have HL_1 := Lib.hid (HL_0.out.trans (al.mono HL_0.out.size))
 have HV_1 := Lib.hid (HV_0.out.below al)
 clear al HL_0 HV_0
 have H_1 := Lib.hid (nb0)
 have Z_1 := Lib.hid (nb1)
 have P_1 := Lib.hid (nb2)
 clear nb0 nb1 nb2
 generalize ((w.alloc (.cells #[.slice A0 n0 c0, .slice B0 q0 d0, .slice X0 xn0 xc0, .slice Y0 yn0 yc0, .int .i64 t0, .int .i64 what, .int .i64 rk, .int .i64 ro, .int .i64 ra, .int .i64 rb, .int .i64 rm, .int .i64 rl, .int .i64 ru, .int .i64 key, .bool ok] 118)).alloc (.cells st0 35)).alloc (.cells rp0 46) = w1 at HL_1 HV_1 H_1 Z_1 P_1 ⊢
 have hz1 : w.heap.size + 1 + 1 < w1.heap.size := P_1.out.lt
 obtain ⟨x0, x1, x2, x3, x4⟩ := (show _ ∧ _ ∧ _ ∧ _ ∧ _ from ⟨H_1.out.cell 0 rfl, H_1.out.cell 1 rfl, H_1.out.cell 2 rfl, H_1.out.cell 3 rfl, H_1.out.cell 4 rfl⟩)
 have x13 := H_1.out.cell 13 rfl
 go_upto_region 2 with (first
   | (go_at_call 111; refine (HFI.out _ HL_1.out).mono ?_; rintro _ w2 ⟨rfl, hb2⟩
      have HX2 := Lib.hid hb2
      clear hb2 x0 x1 x2 x3 x4 x13))
 have HL_2 := Lib.hid (HL_1.out.trans (HX2.out.mono HL_1.out.size))
 have HV_2 := Lib.hid (HV_1.out.below HX2.out)
 have H_2 := Lib.hid (H_1.out.later HX2.out)
 have Z_2 := Lib.hid (Z_1.out.later HX2.out)
 have P_2 := Lib.hid (P_1.out.later HX2.out)
 clear HL_1 HV_1 H_1 Z_1 P_1
 clear HX2 HFI
 have hz2 : w.heap.size + 1 + 1 < w2.heap.size := P_2.out.lt
 have hsw2 := HL_2.out.size
 by_cases hfd : findS sl key = none
 · obtain rfl : O = ⟨⟨T, sl, kl⟩, 2, 0⟩ := by rw [← HO.out]; exact stp_none hfd
   rw [hfd]
   have hneg : (fi none : Int) < 0 := by decide
   obtain ⟨x0, x1, x2, x3, x4⟩ := (show _ ∧ _ ∧ _ ∧ _ ∧ _ from ⟨H_2.out.cell 0 rfl, H_2.out.cell 1 rfl, H_2.out.cell 2 rfl, H_2.out.cell 3 rfl, H_2.out.cell 4 rfl⟩)
   obtain ⟨y0, y1, y2, y3, y4⟩ := (show _ ∧ _ ∧ _ ∧ _ ∧ _ from ⟨Z_2.out.cell 0 rfl, Z_2.out.cell 1 rfl, Z_2.out.cell 2 rfl, Z_2.out.cell 3 rfl, Z_2.out.cell 4 rfl⟩)
   obtain ⟨f0, f1, f2, f3, f4⟩ := (show _ ∧ _ ∧ _ ∧ _ ∧ _ from ⟨Z_2.out.loose 0, Z_2.out.loose 1, Z_2.out.loose 2, Z_2.out.loose 3, Z_2.out.loose 4⟩)
   obtain ⟨z0, z1⟩ := (show _ ∧ _ from ⟨P_2.out.cell 0 rfl, P_2.out.cell 1 rfl⟩)
   obtain ⟨e0, e1⟩ := (show _ ∧ _ from ⟨P_2.out.loose 0, P_2.out.loose 1⟩)
   go_wp2
   have HT2 := rp_other (st_put Z_2.out rfl (.slice A0 n0 c0) (.slice B0 q0 d0) (.slice X0 xn0 xc0) (.slice Y0 yn0 yc0) (.int .i64 t0)) (show w.heap.size + 1 + 1 ≠ w.heap.size + 1 by omega) (.int .i64 2) (.int .i64 0)
   have P6 := st_other P_2.out (show w.heap.size + 1 ≠ w.heap.size + 1 + 1 by omega) (.slice A0 n0 c0) (.slice B0 q0 d0) (.slice X0 xn0 xc0) (.slice Y0 yn0 yc0) (.int .i64 t0)
   have HT3 := rp_put P6 rfl (.int .i64 2) (.int .i64 0)
   have HTV := sk_rp (sk_zero HV_2.out Z_2.out (.slice A0 n0 c0) (.slice B0 q0 d0) (.slice X0 xn0 xc0) (.slice Y0 yn0 yc0) (.int .i64 t0)) P6 (.int .i64 2) (.int .i64 0)
   have HTB := rp_below (st_below HL_2.out (show w.heap.size ≤ w.heap.size + 1 by omega) (.slice A0 n0 c0) (.slice B0 q0 d0) (.slice X0 xn0 xc0) (.slice Y0 yn0 yc0) (.int .i64 t0)) (show w.heap.size ≤ w.heap.size + 1 + 1 by omega) (.int .i64 2) (.int .i64 0)
   refine bodyPost_ret (results_two (p := 2) (q := 3) (ty := 35) (tz := 46) rfl _ _ (w.heap.size + 1) (w.heap.size + 1 + 1) _ _ _ _ (0, 0) _ _ rfl HT2 Tryz.underlying35 rfl (by kernel_rfl) rfl HT3 Tryz.underlying46 rfl (by kernel_rfl)) rfl ?_
   exact ⟨⟨A0, n0, c0, B0, q0, d0, X0, xn0, xc0, Y0, yn0, yc0, t0⟩, rfl, HTV, HTB, Sv.new.refl _ _⟩
 · obtain ⟨i, hi⟩ : ∃ i, findS sl key = some i := by cases hx : findS sl key with | none => exact absurd hx hfd | some i => exact ⟨i, rfl⟩
   obtain ⟨⟨s, hs, hsk⟩, hsn⟩ := findS_some.1 hi
   clear hsk hsn
   have HOS := Lib.hid (show stepAt ⟨T, sl, kl⟩ i s ok = O from by rw [← HO.out]; exact (stp_some hi hs).symm)
   rw [hi]
   have hfi : (fi (some i) : Int) = (i : Int) := rfl
   simp only [hfi]
   have hil := (List.getElem?_eq_some_iff.1 hs).1
   have HS := Lib.hid hs
   have hnn : ¬ (i : Int) < 0 := by omega
   clear hfd hi hs hfi HO
   go_upto_region 4 with fail
   go_cut [5] from 18 to 24 (fun x5 wx => ∃ (g5 : Nat) (V5 : Sv), x5 = .pointer (some ⟨g5, 0, none⟩) ∧ Blk wx g5 35 V5.cells ∧ SkAt wx V5 T sl kl ∧ Apart wx V5 w2.heap.size sl ∧ Below w2.heap.size w2 wx ∧ w2.heap.size ≤ g5 ∧ ∀ p : Nat → Prop, (∀ b, w2.heap.size ≤ b → p b) → V5.in_ p)
   case first =>
    have hB : Below w2.heap.size w2 w2.drew := (Below.refl _ _).drew
    refine wp_region_held_drew (S := fun w' => Below w2.heap.size w2 w') (by kernel_rfl) hB (fun hHeld => ?_)
    refine tk 0 18 (v := ?_) ?_ ?_
    rotate_left
    · intro w' hSw
      go_simp
      (try with_reducible rfl)
    (try simp only [Act.put, sA, sB, sC])
    refine tk 1 19 (v := ?_) ?_ ?_
    rotate_left
    · intro w' hSw
      have hSw' := hSw
      (try dsimp only at hSw')
      obtain ⟨j0, j1, j2, j3, j4⟩ := (show _ ∧ _ ∧ _ ∧ _ ∧ _ from ⟨(H_2.out.later hSw').cell 0 rfl, (H_2.out.later hSw').cell 1 rfl, (H_2.out.later hSw').cell 2 rfl, (H_2.out.later hSw').cell 3 rfl, (H_2.out.later hSw').cell 4 rfl⟩)
      go_simp
      (try with_reducible rfl)
    (try simp only [Act.put, sA, sB, sC])
    refine tk 2 20 (v := ?_) ?_ ?_
    rotate_left
    · intro w' hSw
      go_simp
      (try with_reducible rfl)
    (try simp only [Act.put, sA, sB, sC])
    refine tk 3 21 (v := ?_) ?_ ?_
    rotate_left
    · intro w' hSw
      go_simp
      (try with_reducible rfl)
    (try simp only [Act.put, sA, sB, sC])
    refine tk 4 22 (v := ?_) ?_ ?_
    rotate_left
    · intro w' hSw
      have hSw' := hSw
      (try dsimp only at hSw')
      have j3 := (H_2.out.later hSw').cell 3 rfl
      go_simp
      (try with_reducible rfl)
    (try simp only [Act.put, sA, sB, sC])
    generalize w2.drew = wd at hB hHeld ⊢
    refine wpAnyH_ready (rs := [5, 7]) (by kernel_rfl) (by simp) ?_
    refine AllReadyH.cons (i := 5) rfl (fun K0 hK => ?_) (AllReadyH.cons (i := 7) rfl (fun K0 hK => ?_) AllReadyH.nil)
    · go_simp
      go_at_call 112
      refine (HCL.out wd (HL_2.out.trans (hB.mono HL_2.out.size))).mono ?_
      rintro _ wq1 ⟨vk, rfl, hok, hb⟩
      have hlek := hB.size
      have hB2 := hB.trans (hb.mono hB.size)
      clear hB
      have hB := hB2
      clear hB2
      obtain ⟨K, kc, rfl, hk1, hk2, hk3, hk4⟩ := hok.form
      have hkf : ∀ a, K = some a → w2.heap.size ≤ a.block := fun a e => by have := hok.rowLt a.block (by rw [e]; rfl); omega
      have hks : Sl K kl.length kc := ⟨hk4, hk2, hk3⟩
      clear hok hb hlek hk2 hk3 hk4
      refine hK.out _ _ hB (fun hHeld => ?_)
      clear hK K0
      (try simp only [Act.put, sA, sB, sC])
      refine wpAnyH_ready (rs := [6, 7]) (by kernel_rfl) (by simp) ?_
      refine AllReadyH.cons (i := 6) rfl (fun K0 hK => ?_) (AllReadyH.cons (i := 7) rfl (fun K0 hK => ?_) AllReadyH.nil)
      · go_simp
        go_at_call 108
        refine (HWI.out wq1 (HL_2.out.trans (hB.mono HL_2.out.size)) K kl.length kc hk1 rfl hks).mono ?_
        rintro _ wq2 ⟨V5, rfl, hv, hb, hin0, hap0⟩
        obtain ⟨A5, n5, c5, B5, q5, d5, X5, xn5, xc5, Y5, yn5, yc5, t5⟩ := V5
        dsimp only at hv hin0 hap0 ⊢
        have hlew := hB.size
        have hin : ∀ p : Nat → Prop, (∀ b, w2.heap.size ≤ b → p b) → Sv.in_ ⟨A5, n5, c5, B5, q5, d5, X5, xn5, xc5, Y5, yn5, yc5, t5⟩ p := fun p hp => hin0 p (fun b hb => hp b (by omega)) (fun a e => hp _ (hkf a e))
        have hap := hap0.less hlew
        have hB2 := hB.trans (hb.mono hB.size)
        clear hB
        have hB := hB2
        clear hB2 hb hin0 hap0 hlew hk1 hkf hks
        refine hK.out _ _ hB (fun hHeld => ?_)
        clear hK K0
        (try simp only [Act.put, sA, sB, sC])
        refine wpAnyH_ready (rs := [7]) (by kernel_rfl) (by simp) ?_
        refine AllReadyH.cons (i := 7) rfl (fun K0 hK => ?_) AllReadyH.nil
        go_simp
        have al := (Below.refl wq2.heap.size wq2).alloc (Nat.le_refl _) (.cells st0 35)
        have hB2 := hB.trans (al.mono hB.size)
        refine hK.out _ (wq2.alloc (.cells st0 35)) hB2 (fun hHeld => ?_)
        clear hK K0
        (try simp only [Act.put, sA, sB, sC])
        have hz := Blk.new wq2 35 st0
        have hg5 := hB.size
        replace hv := hv.below al
        replace hap := hap.below al
        clear al hB
        have hB := hB2
        clear hB2
        generalize wq2.alloc (.cells st0 35) = wq3 at hz hB hHeld hv hap ⊢
        generalize wq2.heap.size = g5 at hz hg5 ⊢
        obtain ⟨y0, y1, y2, y3, y4⟩ := (show _ ∧ _ ∧ _ ∧ _ ∧ _ from ⟨hz.cell 0 rfl, hz.cell 1 rfl, hz.cell 2 rfl, hz.cell 3 rfl, hz.cell 4 rfl⟩)
        obtain ⟨f0, f1, f2, f3, f4⟩ := (show _ ∧ _ ∧ _ ∧ _ ∧ _ from ⟨hz.loose 0, hz.loose 1, hz.loose 2, hz.loose 3, hz.loose 4⟩)
        refine wpAnyH_ready (rs := [8]) (by kernel_rfl) (by simp) ?_
        refine AllReadyH.cons (i := 8) rfl (fun K0 hK => ?_) AllReadyH.nil
        go_simp
        refine hK.out _ (((((wq3.setCell ⟨g5, 0, none⟩ (.slice A5 n5 c5)).setCell ⟨g5, 1, none⟩ (.slice B5 q5 d5)).setCell ⟨g5, 2, none⟩ (.slice X5 xn5 xc5)).setCell ⟨g5, 3, none⟩ (.slice Y5 yn5 yc5)).setCell ⟨g5, 4, none⟩ (.int .i64 t5)) (st_below hB hg5 (.slice A5 n5 c5) (.slice B5 q5 d5) (.slice X5 xn5 xc5) (.slice Y5 yn5 yc5) (.int .i64 t5)) (fun hHeld => ?_)
        clear hK K0
        (try simp only [Act.put, sA, sB, sC])
        refine wpAnyH_done (by kernel_rfl) ?_ _
        go_wp2_with fail
        go_meet
        exact ⟨g5, ⟨A5, n5, c5, B5, q5, d5, X5, xn5, xc5, Y5, yn5, yc5, t5⟩, rfl, st_put hz rfl (.slice A5 n5 c5) (.slice B5 q5 d5) (.slice X5 xn5 xc5) (.slice Y5 yn5 yc5) (.int .i64 t5), sk_zero hv hz (.slice A5 n5 c5) (.slice B5 q5 d5) (.slice X5 xn5 xc5) (.slice Y5 yn5 yc5) (.int .i64 t5), hap.put hz _ _ _ _ _, st_below hB hg5 (.slice A5 n5 c5) (.slice B5 q5 d5) (.slice X5 xn5 xc5) (.slice Y5 yn5 yc5) (.int .i64 t5), hg5, hin⟩
      · go_simp
        have al := (Below.refl wq1.heap.size wq1).alloc (Nat.le_refl _) (.cells st0 35)
        have hB2 := hB.trans (al.mono hB.size)
        refine hK.out _ (wq1.alloc (.cells st0 35)) hB2 (fun hHeld => ?_)
        clear hK K0
        (try simp only [Act.put, sA, sB, sC])
        have hz := Blk.new wq1 35 st0
        have hg5 := hB.size
        replace hk1 := hk1.below al
        clear al hB
        have hB := hB2
        clear hB2
        generalize wq1.alloc (.cells st0 35) = wq4 at hz hB hHeld hk1 ⊢
        generalize wq1.heap.size = g5 at hz hg5 ⊢
        refine wpAnyH_ready (rs := [6]) (by kernel_rfl) (by simp) ?_
        refine AllReadyH.cons (i := 6) rfl (fun K0 hK => ?_) AllReadyH.nil
        go_simp
        go_at_call 108
        refine (HWI.out wq4 (HL_2.out.trans (hB.mono HL_2.out.size)) K kl.length kc hk1 rfl hks).mono ?_
        rintro _ wq5 ⟨V5, rfl, hv, hb, hin0, hap0⟩
        obtain ⟨A5, n5, c5, B5, q5, d5, X5, xn5, xc5, Y5, yn5, yc5, t5⟩ := V5
        dsimp only at hv hin0 hap0 ⊢
        have hlew := hB.size
        have hin : ∀ p : Nat → Prop, (∀ b, w2.heap.size ≤ b → p b) → Sv.in_ ⟨A5, n5, c5, B5, q5, d5, X5, xn5, xc5, Y5, yn5, yc5, t5⟩ p := fun p hp => hin0 p (fun b hb => hp b (by omega)) (fun a e => hp _ (hkf a e))
        have hap := hap0.less hlew
        replace hz := hz.later hb
        have hB2 := hB.trans (hb.mono hB.size)
        clear hB
        have hB := hB2
        clear hB2 hb hin0 hap0 hlew hk1 hkf hks
        refine hK.out _ _ hB (fun hHeld => ?_)
        clear hK K0
        (try simp only [Act.put, sA, sB, sC])
        obtain ⟨y0, y1, y2, y3, y4⟩ := (show _ ∧ _ ∧ _ ∧ _ ∧ _ from ⟨hz.cell 0 rfl, hz.cell 1 rfl, hz.cell 2 rfl, hz.cell 3 rfl, hz.cell 4 rfl⟩)
        obtain ⟨f0, f1, f2, f3, f4⟩ := (show _ ∧ _ ∧ _ ∧ _ ∧ _ from ⟨hz.loose 0, hz.loose 1, hz.loose 2, hz.loose 3, hz.loose 4⟩)
        refine wpAnyH_ready (rs := [8]) (by kernel_rfl) (by simp) ?_
        refine AllReadyH.cons (i := 8) rfl (fun K0 hK => ?_) AllReadyH.nil
        go_simp
        refine hK.out _ (((((wq5.setCell ⟨g5, 0, none⟩ (.slice A5 n5 c5)).setCell ⟨g5, 1, none⟩ (.slice B5 q5 d5)).setCell ⟨g5, 2, none⟩ (.slice X5 xn5 xc5)).setCell ⟨g5, 3, none⟩ (.slice Y5 yn5 yc5)).setCell ⟨g5, 4, none⟩ (.int .i64 t5)) (st_below hB hg5 (.slice A5 n5 c5) (.slice B5 q5 d5) (.slice X5 xn5 xc5) (.slice Y5 yn5 yc5) (.int .i64 t5)) (fun hHeld => ?_)
        clear hK K0
        (try simp only [Act.put, sA, sB, sC])
        refine wpAnyH_done (by kernel_rfl) ?_ _
        go_wp2_with fail
        go_meet
        exact ⟨g5, ⟨A5, n5, c5, B5, q5, d5, X5, xn5, xc5, Y5, yn5, yc5, t5⟩, rfl, st_put hz rfl (.slice A5 n5 c5) (.slice B5 q5 d5) (.slice X5 xn5 xc5) (.slice Y5 yn5 yc5) (.int .i64 t5), sk_zero hv hz (.slice A5 n5 c5) (.slice B5 q5 d5) (.slice X5 xn5 xc5) (.slice Y5 yn5 yc5) (.int .i64 t5), hap.put hz _ _ _ _ _, st_below hB hg5 (.slice A5 n5 c5) (.slice B5 q5 d5) (.slice X5 xn5 xc5) (.slice Y5 yn5 yc5) (.int .i64 t5), hg5, hin⟩
    · go_simp
      have al := (Below.refl wd.heap.size wd).alloc (Nat.le_refl _) (.cells st0 35)
      have hB2 := hB.trans (al.mono hB.size)
      refine hK.out _ (wd.alloc (.cells st0 35)) hB2 (fun hHeld => ?_)
      clear hK K0
      (try simp only [Act.put, sA, sB, sC])
      have hz := Blk.new wd 35 st0
      have hg5 := hB.size
      clear al hB
      have hB := hB2
      clear hB2
      generalize wd.alloc (.cells st0 35) = wq6 at hz hB hHeld  ⊢
      generalize wd.heap.size = g5 at hz hg5 ⊢
      refine wpAnyH_ready (rs := [5]) (by kernel_rfl) (by simp) ?_
      refine AllReadyH.cons (i := 5) rfl (fun K0 hK => ?_) AllReadyH.nil
      go_simp
      go_at_call 112
      refine (HCL.out wq6 (HL_2.out.trans (hB.mono HL_2.out.size))).mono ?_
      rintro _ wq7 ⟨vk, rfl, hok, hb⟩
      have hlek := hB.size
      replace hz := hz.later hb
      have hB2 := hB.trans (hb.mono hB.size)
      clear hB
      have hB := hB2
      clear hB2
      obtain ⟨K, kc, rfl, hk1, hk2, hk3, hk4⟩ := hok.form
      have hkf : ∀ a, K = some a → w2.heap.size ≤ a.block := fun a e => by have := hok.rowLt a.block (by rw [e]; rfl); omega
      have hks : Sl K kl.length kc := ⟨hk4, hk2, hk3⟩
      clear hok hb hlek hk2 hk3 hk4
      refine hK.out _ _ hB (fun hHeld => ?_)
      clear hK K0
      (try simp only [Act.put, sA, sB, sC])
      refine wpAnyH_ready (rs := [6]) (by kernel_rfl) (by simp) ?_
      refine AllReadyH.cons (i := 6) rfl (fun K0 hK => ?_) AllReadyH.nil
      go_simp
      go_at_call 108
      refine (HWI.out wq7 (HL_2.out.trans (hB.mono HL_2.out.size)) K kl.length kc hk1 rfl hks).mono ?_
      rintro _ wq8 ⟨V5, rfl, hv, hb, hin0, hap0⟩
      obtain ⟨A5, n5, c5, B5, q5, d5, X5, xn5, xc5, Y5, yn5, yc5, t5⟩ := V5
      dsimp only at hv hin0 hap0 ⊢
      have hlew := hB.size
      have hin : ∀ p : Nat → Prop, (∀ b, w2.heap.size ≤ b → p b) → Sv.in_ ⟨A5, n5, c5, B5, q5, d5, X5, xn5, xc5, Y5, yn5, yc5, t5⟩ p := fun p hp => hin0 p (fun b hb => hp b (by omega)) (fun a e => hp _ (hkf a e))
      have hap := hap0.less hlew
      replace hz := hz.later hb
      have hB2 := hB.trans (hb.mono hB.size)
      clear hB
      have hB := hB2
      clear hB2 hb hin0 hap0 hlew hk1 hkf hks
      refine hK.out _ _ hB (fun hHeld => ?_)
      clear hK K0
      (try simp only [Act.put, sA, sB, sC])
      obtain ⟨y0, y1, y2, y3, y4⟩ := (show _ ∧ _ ∧ _ ∧ _ ∧ _ from ⟨hz.cell 0 rfl, hz.cell 1 rfl, hz.cell 2 rfl, hz.cell 3 rfl, hz.cell 4 rfl⟩)
      obtain ⟨f0, f1, f2, f3, f4⟩ := (show _ ∧ _ ∧ _ ∧ _ ∧ _ from ⟨hz.loose 0, hz.loose 1, hz.loose 2, hz.loose 3, hz.loose 4⟩)
      refine wpAnyH_ready (rs := [8]) (by kernel_rfl) (by simp) ?_
      refine AllReadyH.cons (i := 8) rfl (fun K0 hK => ?_) AllReadyH.nil
      go_simp
      refine hK.out _ (((((wq8.setCell ⟨g5, 0, none⟩ (.slice A5 n5 c5)).setCell ⟨g5, 1, none⟩ (.slice B5 q5 d5)).setCell ⟨g5, 2, none⟩ (.slice X5 xn5 xc5)).setCell ⟨g5, 3, none⟩ (.slice Y5 yn5 yc5)).setCell ⟨g5, 4, none⟩ (.int .i64 t5)) (st_below hB hg5 (.slice A5 n5 c5) (.slice B5 q5 d5) (.slice X5 xn5 xc5) (.slice Y5 yn5 yc5) (.int .i64 t5)) (fun hHeld => ?_)
      clear hK K0
      (try simp only [Act.put, sA, sB, sC])
      refine wpAnyH_done (by kernel_rfl) ?_ _
      go_wp2_with fail
      go_meet
      exact ⟨g5, ⟨A5, n5, c5, B5, q5, d5, X5, xn5, xc5, Y5, yn5, yc5, t5⟩, rfl, st_put hz rfl (.slice A5 n5 c5) (.slice B5 q5 d5) (.slice X5 xn5 xc5) (.slice Y5 yn5 yc5) (.int .i64 t5), sk_zero hv hz (.slice A5 n5 c5) (.slice B5 q5 d5) (.slice X5 xn5 xc5) (.slice Y5 yn5 yc5) (.int .i64 t5), hap.put hz _ _ _ _ _, st_below hB hg5 (.slice A5 n5 c5) (.slice B5 q5 d5) (.slice X5 xn5 xc5) (.slice Y5 yn5 yc5) (.int .i64 t5), hg5, hin⟩
   case rest =>
    obtain ⟨g5, V5, rfl, h5, hv5, ha5, hb5, hg5, hin5⟩ := hcut
    obtain ⟨A5, n5, c5, B5, q5, d5, X5, xn5, xc5, Y5, yn5, yc5, t5⟩ := V5
    unfold Sv.cells at h5
    dsimp only at h5 hv5 ha5 hin5
    have HL_3 := Lib.hid (HL_2.out.trans (hb5.mono HL_2.out.size))
    have HV_3 := Lib.hid (HV_2.out.below hb5)
    have H_3 := Lib.hid (H_2.out.later hb5)
    have Z_3 := Lib.hid (Z_2.out.later hb5)
    have P_3 := Lib.hid (P_2.out.later hb5)
    clear HL_2 HV_2 H_2 Z_2 P_2
    have U_3 := Lib.hid (h5)
    have HW_3 := Lib.hid (hv5)
    have AW_3 := Lib.hid (ha5)
    have HIN := Lib.hid hin5
    have hlec := hb5.size
    have hbs := HL_3.out.size
    clear h5 hv5 ha5 hb5 hin5 HCL HWI
    obtain ⟨ad, eX, hat⟩ := HW_3.out.sag.at_ HS.out
    dsimp only at eX
    subst eX
    obtain ⟨e0, e1, e2, e3, e4, e5, e6, e7, e8, e9, e10⟩ := sg_cells hat
    have x2 := U_3.out.cell 2 rfl
    have hii : (i : Int) < (xn5 : Int) := by have h2 := HW_3.out.xn; dsimp only at h2; omega
    obtain ⟨⟨k0, k1, k2, k3, k4, k5, k6⟩, ph, lg, tr, wy⟩ := s
    dsimp only at e0 e1 e2 e3 e4 e5 e6 e7 e8 e9 e10
    have hxb : ∀ k, (Value.slice (some ad) xn5 xc5).ownBlock = some k → k < wc.heap.size := fun k e => (World.ownsRow.lt AW_3.out.own k e).2
    go_upto_region 6 with fail
    clear x2 hat e0 e1 e2 e3 e4 e5 e6 e7 e8 e9 e10
    have al := (Below.refl wc.heap.size wc).alloc (Nat.le_refl _) (.cells #[.int .i64 k0, .int .i64 k1, .int .i64 k2, .int .i64 k3, .int .i64 k4, .int .i64 k5, .int .i64 k6, .int .i64 ph, .int .i64 lg, .int .i64 tr, .int .i64 wy] 68)
    have nb0 := Blk.new wc 68 #[.int .i64 k0, .int .i64 k1, .int .i64 k2, .int .i64 k3, .int .i64 k4, .int .i64 k5, .int .i64 k6, .int .i64 ph, .int .i64 lg, .int .i64 tr, .int .i64 wy]
    have HL_4 := Lib.hid (HL_3.out.trans (al.mono HL_3.out.size))
    have HV_4 := Lib.hid (HV_3.out.below al)
    have H_4 := Lib.hid (H_3.out.later al)
    have Z_4 := Lib.hid (Z_3.out.later al)
    have P_4 := Lib.hid (P_3.out.later al)
    have U_4 := Lib.hid (U_3.out.later al)
    have HW_4 := Lib.hid (HW_3.out.below al)
    have AW_4 := Lib.hid (AW_3.out.below al)
    clear al HL_3 HV_3 H_3 Z_3 P_3 U_3 HW_3 AW_3
    have G_4 := Lib.hid (nb0)
    clear nb0
    generalize wc.alloc (.cells #[.int .i64 k0, .int .i64 k1, .int .i64 k2, .int .i64 k3, .int .i64 k4, .int .i64 k5, .int .i64 k6, .int .i64 ph, .int .i64 lg, .int .i64 tr, .int .i64 wy] 68) = w6 at HL_4 HV_4 H_4 Z_4 P_4 U_4 HW_4 AW_4 G_4 ⊢
    have hgu6 : g5 < w6.heap.size := U_4.out.lt
    generalize wc.heap.size = gs at G_4 hlec hbs hxb ⊢
    have hs6 : gs < w6.heap.size := G_4.out.lt
    have hxl : ∀ k, (Value.slice (some ad) xn5 xc5).ownBlock = some k → w2.heap.size ≤ k := fun k e => AW_4.out.own.rowLt k e
    have h7 := G_4.out.cell 7 rfl
    by_cases hph : ph = 1
    · have qe := eqT hph
      have D := HUN.out w6 ⟨A5, n5, c5, B5, q5, d5, some ad, xn5, xc5, Y5, yn5, yc5, t5⟩ w2.heap.size i ⟨⟨k0, k1, k2, k3, k4, k5, k6⟩, ph, lg, tr, wy⟩ HW_4.out AW_4.out (by omega) HS.out
      have hOe : endO ⟨undS T (⟨⟨k0, k1, k2, k3, k4, k5, k6⟩, ph, lg, tr, wy⟩ : Sg).rq, sl, kl⟩ i ⟨⟨k0, k1, k2, k3, k4, k5, k6⟩, ph, lg, tr, wy⟩ wy = O := by rw [← HOS.out]; unfold stepAt; rw [if_pos hph]
      dsimp only at hOe D
      rw [hOe] at D
      unfold EgB Sv.val Sv.cells at D
      dsimp only at D
      clear hph hOe HSE HGO
      have D9 := Lib.hid D
      clear D
      obtain ⟨x0, x1, x2, x3, x4⟩ := (show _ ∧ _ ∧ _ ∧ _ ∧ _ from ⟨U_4.out.cell 0 rfl, U_4.out.cell 1 rfl, U_4.out.cell 2 rfl, U_4.out.cell 3 rfl, U_4.out.cell 4 rfl⟩)
      go_wp2_with (first
        | (go_at_call 113; refine D9.out.mono ?_; rintro _ w7 ⟨V7, rfl, hv, hb, hnw⟩
           obtain ⟨A7, n7, c7, B7, q7, d7, X7, xn7, xc7, Y7, yn7, yc7, t7⟩ := V7
           dsimp only at hv hnw ⊢
           have Z7 := Lib.hid (show Blk w7 (w.heap.size + 1) 35 st0 from (hb.block _ (by omega)).trans Z_4.out)
           have P7 := Lib.hid (show Blk w7 (w.heap.size + 1 + 1) 46 rp0 from (hb.block _ (by omega)).trans P_4.out)
           have L7 := Lib.hid (HL_4.out.trans (hb.mono hsw2))
           have HV7 := Lib.hid hv
           have HNW := Lib.hid hnw
           clear hv hb hnw x0 x1 x2 x3 x4
           obtain ⟨y0, y1, y2, y3, y4⟩ := (show _ ∧ _ ∧ _ ∧ _ ∧ _ from ⟨Z7.out.cell 0 rfl, Z7.out.cell 1 rfl, Z7.out.cell 2 rfl, Z7.out.cell 3 rfl, Z7.out.cell 4 rfl⟩)
           obtain ⟨f0, f1, f2, f3, f4⟩ := (show _ ∧ _ ∧ _ ∧ _ ∧ _ from ⟨Z7.out.loose 0, Z7.out.loose 1, Z7.out.loose 2, Z7.out.loose 3, Z7.out.loose 4⟩)
           obtain ⟨z0, z1⟩ := (show _ ∧ _ from ⟨P7.out.cell 0 rfl, P7.out.cell 1 rfl⟩)
           obtain ⟨e0, e1⟩ := (show _ ∧ _ from ⟨P7.out.loose 0, P7.out.loose 1⟩)))
      have HT2 := rp_other (st_put Z7.out rfl (.slice A7 n7 c7) (.slice B7 q7 d7) (.slice X7 xn7 xc7) (.slice Y7 yn7 yc7) (.int .i64 t7)) (show w.heap.size + 1 + 1 ≠ w.heap.size + 1 by omega) (.int .i64 O.E) (.int .i64 O.I)
      have P6 := st_other P7.out (show w.heap.size + 1 ≠ w.heap.size + 1 + 1 by omega) (.slice A7 n7 c7) (.slice B7 q7 d7) (.slice X7 xn7 xc7) (.slice Y7 yn7 yc7) (.int .i64 t7)
      have HT3 := rp_put P6 rfl (.int .i64 O.E) (.int .i64 O.I)
      have HTV := sk_rp (sk_zero HV7.out Z7.out (.slice A7 n7 c7) (.slice B7 q7 d7) (.slice X7 xn7 xc7) (.slice Y7 yn7 yc7) (.int .i64 t7)) P6 (.int .i64 O.E) (.int .i64 O.I)
      have HTB := rp_below (st_below L7.out (show w.heap.size ≤ w.heap.size + 1 by omega) (.slice A7 n7 c7) (.slice B7 q7 d7) (.slice X7 xn7 xc7) (.slice Y7 yn7 yc7) (.int .i64 t7)) (show w.heap.size ≤ w.heap.size + 1 + 1 by omega) (.int .i64 O.E) (.int .i64 O.I)
      refine bodyPost_ret (results_two (p := 2) (q := 3) (ty := 35) (tz := 46) rfl _ _ (w.heap.size + 1) (w.heap.size + 1 + 1) _ _ _ _ (0, 0) _ _ rfl HT2 Tryz.underlying35 rfl (by kernel_rfl) rfl HT3 Tryz.underlying46 rfl (by kernel_rfl)) rfl ?_
      exact ⟨⟨A7, n7, c7, B7, q7, d7, X7, xn7, xc7, Y7, yn7, yc7, t7⟩, rfl, HTV, HTB, fun p hp hq => HNW.out p (fun b hb => hp b (by omega)) (HIN.out p (fun b hb => hp b (by omega)))⟩
    · have qe := eqF hph
      have HPH := Lib.hid hph
      have HRD := Lib.hid (sready_any ⟨⟨k0, k1, k2, k3, k4, k5, k6⟩, ph, lg, tr, wy⟩ w6)
      unfold BoolRes Sg.val at HRD
      dsimp only at HRD
      clear hph HUN
      obtain ⟨h0, h1, h2, h3, h4, h5, h6, h7, h8, h9, h10⟩ := (show _ ∧ _ ∧ _ ∧ _ ∧ _ ∧ _ ∧ _ ∧ _ ∧ _ ∧ _ ∧ _ from ⟨G_4.out.cell 0 rfl, G_4.out.cell 1 rfl, G_4.out.cell 2 rfl, G_4.out.cell 3 rfl, G_4.out.cell 4 rfl, G_4.out.cell 5 rfl, G_4.out.cell 6 rfl, G_4.out.cell 7 rfl, G_4.out.cell 8 rfl, G_4.out.cell 9 rfl, G_4.out.cell 10 rfl⟩)
      by_cases hrd : readyS ⟨⟨k0, k1, k2, k3, k4, k5, k6⟩, ph, lg, tr, wy⟩
      · rw [decide_eq_true hrd] at HRD
        go_upto_region 9 with (first | (go_at_call 114; refine HRD.out.mono ?_; rintro _ w8 ⟨rfl, hb⟩; have HXr := Lib.hid hb; clear hb))
        clear h0 h1 h2 h3 h4 h5 h6 h7 h8 h9 h10 HRD
        have hle8 := HXr.out.size
        have HL_5 := Lib.hid (HL_4.out.trans (HXr.out.mono HL_4.out.size))
        have HV_5 := Lib.hid (HV_4.out.below HXr.out)
        have H_5 := Lib.hid (H_4.out.later HXr.out)
        have Z_5 := Lib.hid (Z_4.out.later HXr.out)
        have P_5 := Lib.hid (P_4.out.later HXr.out)
        have U_5 := Lib.hid (U_4.out.later HXr.out)
        have HW_5 := Lib.hid (HW_4.out.below HXr.out)
        have AW_5 := Lib.hid (AW_4.out.below HXr.out)
        have G_5 := Lib.hid (G_4.out.later HXr.out)
        clear HL_4 HV_4 H_4 Z_4 P_4 U_4 HW_4 AW_4 G_4
        have D := HSE.out w8 ⟨A5, n5, c5, B5, q5, d5, some ad, xn5, xc5, Y5, yn5, yc5, t5⟩ w2.heap.size i ⟨⟨k0, k1, k2, k3, k4, k5, k6⟩, ph, lg, tr, wy⟩ HW_5.out AW_5.out (by omega) HS.out (HH.out.below HL_5.out)
        have hOe : (if setE T (⟨⟨k0, k1, k2, k3, k4, k5, k6⟩, ph, lg, tr, wy⟩ : Sg).rq = 0 then endO ⟨setS T (⟨⟨k0, k1, k2, k3, k4, k5, k6⟩, ph, lg, tr, wy⟩ : Sg).rq, sl, kl⟩ i ⟨⟨k0, k1, k2, k3, k4, k5, k6⟩, ph, lg, tr, wy⟩ 0 else goO ⟨T, sl, kl⟩ i (turnS ⟨⟨k0, k1, k2, k3, k4, k5, k6⟩, ph, lg, tr, wy⟩ (setE T (⟨⟨k0, k1, k2, k3, k4, k5, k6⟩, ph, lg, tr, wy⟩ : Sg).rq))) = O := by rw [← HOS.out]; unfold stepAt; rw [if_neg HPH.out, if_pos hrd]
        dsimp only at hOe D
        rw [hOe] at D
        unfold EgB Sv.val Sv.cells at D
        dsimp only at D
        clear hrd hOe HGO HXr
        have D9 := Lib.hid D
        clear D
        obtain ⟨x0, x1, x2, x3, x4⟩ := (show _ ∧ _ ∧ _ ∧ _ ∧ _ from ⟨U_5.out.cell 0 rfl, U_5.out.cell 1 rfl, U_5.out.cell 2 rfl, U_5.out.cell 3 rfl, U_5.out.cell 4 rfl⟩)
        go_wp2_with (first
          | (go_at_call 115; refine D9.out.mono ?_; rintro _ w7 ⟨V7, rfl, hv, hb, hnw⟩
             obtain ⟨A7, n7, c7, B7, q7, d7, X7, xn7, xc7, Y7, yn7, yc7, t7⟩ := V7
             dsimp only at hv hnw ⊢
             have Z7 := Lib.hid (show Blk w7 (w.heap.size + 1) 35 st0 from (hb.block _ (by omega)).trans Z_5.out)
             have P7 := Lib.hid (show Blk w7 (w.heap.size + 1 + 1) 46 rp0 from (hb.block _ (by omega)).trans P_5.out)
             have L7 := Lib.hid (HL_5.out.trans (hb.mono hsw2))
             have HV7 := Lib.hid hv
             have HNW := Lib.hid hnw
             clear hv hb hnw x0 x1 x2 x3 x4
             obtain ⟨y0, y1, y2, y3, y4⟩ := (show _ ∧ _ ∧ _ ∧ _ ∧ _ from ⟨Z7.out.cell 0 rfl, Z7.out.cell 1 rfl, Z7.out.cell 2 rfl, Z7.out.cell 3 rfl, Z7.out.cell 4 rfl⟩)
             obtain ⟨f0, f1, f2, f3, f4⟩ := (show _ ∧ _ ∧ _ ∧ _ ∧ _ from ⟨Z7.out.loose 0, Z7.out.loose 1, Z7.out.loose 2, Z7.out.loose 3, Z7.out.loose 4⟩)
             obtain ⟨z0, z1⟩ := (show _ ∧ _ from ⟨P7.out.cell 0 rfl, P7.out.cell 1 rfl⟩)
             obtain ⟨e0, e1⟩ := (show _ ∧ _ from ⟨P7.out.loose 0, P7.out.loose 1⟩)))
        have HT2 := rp_other (st_put Z7.out rfl (.slice A7 n7 c7) (.slice B7 q7 d7) (.slice X7 xn7 xc7) (.slice Y7 yn7 yc7) (.int .i64 t7)) (show w.heap.size + 1 + 1 ≠ w.heap.size + 1 by omega) (.int .i64 O.E) (.int .i64 O.I)
        have P6 := st_other P7.out (show w.heap.size + 1 ≠ w.heap.size + 1 + 1 by omega) (.slice A7 n7 c7) (.slice B7 q7 d7) (.slice X7 xn7 xc7) (.slice Y7 yn7 yc7) (.int .i64 t7)
        have HT3 := rp_put P6 rfl (.int .i64 O.E) (.int .i64 O.I)
        have HTV := sk_rp (sk_zero HV7.out Z7.out (.slice A7 n7 c7) (.slice B7 q7 d7) (.slice X7 xn7 xc7) (.slice Y7 yn7 yc7) (.int .i64 t7)) P6 (.int .i64 O.E) (.int .i64 O.I)
        have HTB := rp_below (st_below L7.out (show w.heap.size ≤ w.heap.size + 1 by omega) (.slice A7 n7 c7) (.slice B7 q7 d7) (.slice X7 xn7 xc7) (.slice Y7 yn7 yc7) (.int .i64 t7)) (show w.heap.size ≤ w.heap.size + 1 + 1 by omega) (.int .i64 O.E) (.int .i64 O.I)
        refine bodyPost_ret (results_two (p := 2) (q := 3) (ty := 35) (tz := 46) rfl _ _ (w.heap.size + 1) (w.heap.size + 1 + 1) _ _ _ _ (0, 0) _ _ rfl HT2 Tryz.underlying35 rfl (by kernel_rfl) rfl HT3 Tryz.underlying46 rfl (by kernel_rfl)) rfl ?_
        exact ⟨⟨A7, n7, c7, B7, q7, d7, X7, xn7, xc7, Y7, yn7, yc7, t7⟩, rfl, HTV, HTB, fun p hp hq => HNW.out p (fun b hb => hp b (by omega)) (HIN.out p (fun b hb => hp b (by omega)))⟩
      · rw [decide_eq_false hrd] at HRD
        go_upto_region 10 with (first | (go_at_call 114; refine HRD.out.mono ?_; rintro _ w8 ⟨rfl, hb⟩; have HXr := Lib.hid hb; clear hb))
        clear h0 h1 h2 h3 h4 h5 h6 h7 h8 h9 h10 HRD
        have hle8 := HXr.out.size
        have HL_5 := Lib.hid (HL_4.out.trans (HXr.out.mono HL_4.out.size))
        have HV_5 := Lib.hid (HV_4.out.below HXr.out)
        have H_5 := Lib.hid (H_4.out.later HXr.out)
        have Z_5 := Lib.hid (Z_4.out.later HXr.out)
        have P_5 := Lib.hid (P_4.out.later HXr.out)
        have U_5 := Lib.hid (U_4.out.later HXr.out)
        have HW_5 := Lib.hid (HW_4.out.below HXr.out)
        have AW_5 := Lib.hid (AW_4.out.below HXr.out)
        have G_5 := Lib.hid (G_4.out.later HXr.out)
        clear HL_4 HV_4 H_4 Z_4 P_4 U_4 HW_4 AW_4 G_4
        have hgx : (Value.slice (some ad) xn5 xc5).ownBlock ≠ some gs := fun e => by have := hxb gs e; omega
        have HLG := Lib.hid (fun W => sleg_any ⟨⟨k0, k1, k2, k3, k4, k5, k6⟩, ph, lg, tr, wy⟩ ok W)
        have HGO9 := Lib.hid (fun W (h' : SkAt W ⟨A5, n5, c5, B5, q5, d5, some ad, xn5, xc5, Y5, yn5, yc5, t5⟩ T sl kl) (ha : Apart W ⟨A5, n5, c5, B5, q5, d5, some ad, xn5, xc5, Y5, yn5, yc5, t5⟩ w2.heap.size sl) (hb : w2.heap.size ≤ W.heap.size) => HGO.out W ⟨A5, n5, c5, B5, q5, d5, some ad, xn5, xc5, Y5, yn5, yc5, t5⟩ w2.heap.size i (legS ⟨⟨k0, k1, k2, k3, k4, k5, k6⟩, ph, lg, tr, wy⟩ ok) h' ha hil hb)
        have hOe : goO ⟨T, sl, kl⟩ i (legS ⟨⟨k0, k1, k2, k3, k4, k5, k6⟩, ph, lg, tr, wy⟩ ok) = O := by rw [← HOS.out]; unfold stepAt; rw [if_neg HPH.out, if_neg hrd]
        have HGN := Lib.hid (fun W V' (h' : SkAt W V' T sl kl) (ha : Apart W V' w2.heap.size sl) => egoon_any V' T sl kl i (legS ⟨⟨k0, k1, k2, k3, k4, k5, k6⟩, ph, lg, tr, wy⟩ ok) w2.heap.size W h' ha hil hsl)
        rw [hOe] at HGO9 HGN
        unfold SgRes at HLG
        clear hrd hOe HGO HSE HXr HGO9
        generalize legS ⟨⟨k0, k1, k2, k3, k4, k5, k6⟩, ph, lg, tr, wy⟩ ok = lgs at HLG HGN
        unfold EgO Sv.val Sv.cells at HGN
        unfold Sg.val at HLG HGN
        dsimp only at HLG HGN
        refine wp_region_held_drew (S := fun w' => On (fun k => k < w8.heap.size ∧ (Value.slice (some ad) xn5 xc5).ownBlock ≠ some k ∧ k ≠ w.heap.size + 1 ∧ k ≠ w.heap.size + 1 + 1) w8 w') (by kernel_rfl) (On.refl _ w8).drew (fun hHeld => ?_)
        refine tk 0 47 (v := ?_) ?_ ?_
        rotate_left
        · intro w' hSw
          have hSw' := hSw
          (try dsimp only at hSw')
          obtain ⟨j0, j1, j2, j3, j4⟩ := (show _ ∧ _ ∧ _ ∧ _ ∧ _ from ⟨(Blk.on U_5.out hSw' ⟨U_5.out.lt, fun e => AW_5.out.own.ne U_5.out (by decide) _ e rfl, by omega, by omega⟩).cell 0 rfl, (Blk.on U_5.out hSw' ⟨U_5.out.lt, fun e => AW_5.out.own.ne U_5.out (by decide) _ e rfl, by omega, by omega⟩).cell 1 rfl, (Blk.on U_5.out hSw' ⟨U_5.out.lt, fun e => AW_5.out.own.ne U_5.out (by decide) _ e rfl, by omega, by omega⟩).cell 2 rfl, (Blk.on U_5.out hSw' ⟨U_5.out.lt, fun e => AW_5.out.own.ne U_5.out (by decide) _ e rfl, by omega, by omega⟩).cell 3 rfl, (Blk.on U_5.out hSw' ⟨U_5.out.lt, fun e => AW_5.out.own.ne U_5.out (by decide) _ e rfl, by omega, by omega⟩).cell 4 rfl⟩)
          go_simp
          (try with_reducible rfl)
        (try simp only [Act.put, sA, sB, sC])
        refine tk 1 48 (v := ?_) ?_ ?_
        rotate_left
        · intro w' hSw
          go_simp
          (try with_reducible rfl)
        (try simp only [Act.put, sA, sB, sC])
        refine tk 2 49 (v := ?_) ?_ ?_
        rotate_left
        · intro w' hSw
          have hSw' := hSw
          (try dsimp only at hSw')
          obtain ⟨j0, j1, j2, j3, j4, j5, j6, j7, j8, j9, j10⟩ := (show _ ∧ _ ∧ _ ∧ _ ∧ _ ∧ _ ∧ _ ∧ _ ∧ _ ∧ _ ∧ _ from ⟨(Blk.on G_5.out hSw' ⟨G_5.out.lt, hgx, by omega, by omega⟩).cell 0 rfl, (Blk.on G_5.out hSw' ⟨G_5.out.lt, hgx, by omega, by omega⟩).cell 1 rfl, (Blk.on G_5.out hSw' ⟨G_5.out.lt, hgx, by omega, by omega⟩).cell 2 rfl, (Blk.on G_5.out hSw' ⟨G_5.out.lt, hgx, by omega, by omega⟩).cell 3 rfl, (Blk.on G_5.out hSw' ⟨G_5.out.lt, hgx, by omega, by omega⟩).cell 4 rfl, (Blk.on G_5.out hSw' ⟨G_5.out.lt, hgx, by omega, by omega⟩).cell 5 rfl, (Blk.on G_5.out hSw' ⟨G_5.out.lt, hgx, by omega, by omega⟩).cell 6 rfl, (Blk.on G_5.out hSw' ⟨G_5.out.lt, hgx, by omega, by omega⟩).cell 7 rfl, (Blk.on G_5.out hSw' ⟨G_5.out.lt, hgx, by omega, by omega⟩).cell 8 rfl, (Blk.on G_5.out hSw' ⟨G_5.out.lt, hgx, by omega, by omega⟩).cell 9 rfl, (Blk.on G_5.out hSw' ⟨G_5.out.lt, hgx, by omega, by omega⟩).cell 10 rfl⟩)
          go_simp
          (try with_reducible rfl)
        (try simp only [Act.put, sA, sB, sC])
        refine tk 3 50 (v := ?_) ?_ ?_
        rotate_left
        · intro w' hSw
          go_simp
          (try with_reducible rfl)
        (try simp only [Act.put, sA, sB, sC])
        refine tk 4 51 (v := ?_) ?_ ?_
        rotate_left
        · intro w' hSw
          go_simp
          (try with_reducible rfl)
        (try simp only [Act.put, sA, sB, sC])
        refine tk 5 52 (v := ?_) ?_ ?_
        rotate_left
        · intro w' hSw
          have hSw' := hSw
          (try dsimp only at hSw')
          have j14 := (Blk.on H_5.out hSw' ⟨H_5.out.lt, fun e => by have := hxl _ e; omega, by omega, by omega⟩).cell 14 rfl
          go_simp
          (try with_reducible rfl)
        (try simp only [Act.put, sA, sB, sC])
        have hbd : Below w8.heap.size w8 w8.drew := (Below.refl _ _).drew
        have HL_6 := Lib.hid (HL_5.out.trans (hbd.mono HL_5.out.size))
        have HV_6 := Lib.hid (HV_5.out.below hbd)
        have H_6 := Lib.hid (H_5.out.later hbd)
        have Z_6 := Lib.hid (Z_5.out.later hbd)
        have P_6 := Lib.hid (P_5.out.later hbd)
        have U_6 := Lib.hid (U_5.out.later hbd)
        have HW_6 := Lib.hid (HW_5.out.below hbd)
        have AW_6 := Lib.hid (AW_5.out.below hbd)
        have G_6 := Lib.hid (G_5.out.later hbd)
        clear HL_5 HV_5 H_5 Z_5 P_5 U_5 HW_5 AW_5 G_5
        clear hbd
        have hzd : w8.drew.heap.size = w8.heap.size := rfl
        have HZD := Lib.hid hzd
        clear hzd
        generalize w8.drew = wd at hHeld HZD HL_6 HV_6 H_6 Z_6 P_6 U_6 HW_6 AW_6 G_6 ⊢
        have hszd : wd.heap.size = w8.heap.size := HZD.out
        refine wpAnyH_ready (rs := [6]) (by kernel_rfl) (by simp) ?_
        refine AllReadyH.cons (i := 6) rfl (fun K0 hK => ?_) AllReadyH.nil
        go_simp
        go_at_call 117
        refine (HLG.out wd).mono ?_
        rintro _ w9 ⟨rfl, hb9⟩
        have hH9 : On (fun k => k < w8.heap.size ∧ (Value.slice (some ad) xn5 xc5).ownBlock ≠ some k ∧ k ≠ w.heap.size + 1 ∧ k ≠ w.heap.size + 1 + 1) w8 w9 := hHeld.trans (On.of hb9 (fun k hk => by have := hk.1; omega))
        have hs9 := hb9.size
        have HL_7 := Lib.hid (HL_6.out.trans (hb9.mono HL_6.out.size))
        have HV_7 := Lib.hid (HV_6.out.below hb9)
        have H_7 := Lib.hid (H_6.out.later hb9)
        have Z_7 := Lib.hid (Z_6.out.later hb9)
        have P_7 := Lib.hid (P_6.out.later hb9)
        have U_7 := Lib.hid (U_6.out.later hb9)
        have HW_7 := Lib.hid (HW_6.out.below hb9)
        have AW_7 := Lib.hid (AW_6.out.below hb9)
        have G_7 := Lib.hid (G_6.out.later hb9)
        clear HL_6 HV_6 H_6 Z_6 P_6 U_6 HW_6 AW_6 G_6
        clear hb9
        refine hK.out _ _ hH9 (fun hHeld => ?_)
        clear hK K0
        (try simp only [Act.put, sA, sB, sC])
        refine wpAnyH_ready (rs := [7]) (by kernel_rfl) (by simp) ?_
        refine AllReadyH.cons (i := 7) rfl (fun K0 hK => ?_) AllReadyH.nil
        go_simp
        go_at_call 116
        refine (HGN.out w9 ⟨A5, n5, c5, B5, q5, d5, some ad, xn5, xc5, Y5, yn5, yc5, t5⟩ HW_7.out AW_7.out).mono ?_
        rintro _ w7 ⟨V7, rfl, hv, hon, hnw0⟩
        obtain ⟨A7, n7, c7, B7, q7, d7, X7, xn7, xc7, Y7, yn7, yc7, t7⟩ := V7
        dsimp only at hv hon hnw0 ⊢
        have hs7 := HL_7.out.size
        have hb : Below w2.heap.size w9 w7 := hon.below (fun k hk => ⟨by omega, fun e => by have := hxl k e; omega⟩)
        have hnw : Sv.new ⟨A5, n5, c5, B5, q5, d5, some ad, xn5, xc5, Y5, yn5, yc5, t5⟩ ⟨A7, n7, c7, B7, q7, d7, X7, xn7, xc7, Y7, yn7, yc7, t7⟩ w2.heap.size := fun p hp hq => hnw0 p (fun b hb => hp b (by omega)) hq
        have hH7 : On (fun k => k < w8.heap.size ∧ (Value.slice (some ad) xn5 xc5).ownBlock ≠ some k ∧ k ≠ w.heap.size + 1 ∧ k ≠ w.heap.size + 1 + 1) w8 w7 := hH9.trans (hon.weak (fun k hk => ⟨by have := hk.1; omega, hk.2.1⟩))
        have Z7 := Lib.hid (show Blk w7 (w.heap.size + 1) 35 st0 from (hb.block _ (by omega)).trans Z_7.out)
        have P7 := Lib.hid (show Blk w7 (w.heap.size + 1 + 1) 46 rp0 from (hb.block _ (by omega)).trans P_7.out)
        have L7 := Lib.hid (HL_7.out.trans (hb.mono hsw2))
        have HV7 := Lib.hid hv
        have HNW := Lib.hid hnw
        clear hv hb hnw hnw0 hon HL_7 HV_7 H_7 Z_7 P_7 U_7 HW_7 AW_7 G_7
        refine hK.out _ _ hH7 (fun hHeld => ?_)
        clear hK K0
        (try simp only [Act.put, sA, sB, sC])
        refine tk 8 55 (v := ?_) ?_ ?_
        rotate_left
        · intro w' hSw
          go_simp
          (try with_reducible rfl)
        (try simp only [Act.put, sA, sB, sC])
        refine tk 9 56 (v := ?_) ?_ ?_
        rotate_left
        · intro w' hSw
          go_simp
          (try with_reducible rfl)
        (try simp only [Act.put, sA, sB, sC])
        obtain ⟨y0, y1, y2, y3, y4⟩ := (show _ ∧ _ ∧ _ ∧ _ ∧ _ from ⟨Z7.out.cell 0 rfl, Z7.out.cell 1 rfl, Z7.out.cell 2 rfl, Z7.out.cell 3 rfl, Z7.out.cell 4 rfl⟩)
        obtain ⟨f0, f1, f2, f3, f4⟩ := (show _ ∧ _ ∧ _ ∧ _ ∧ _ from ⟨Z7.out.loose 0, Z7.out.loose 1, Z7.out.loose 2, Z7.out.loose 3, Z7.out.loose 4⟩)
        refine wpAnyH_ready (rs := [10]) (by kernel_rfl) (by simp) ?_
        refine AllReadyH.cons (i := 10) rfl (fun K0 hK => ?_) AllReadyH.nil
        go_simp
        refine hK.out _ (((((w7.setCell ⟨w.heap.size + 1, 0, none⟩ (.slice A7 n7 c7)).setCell ⟨w.heap.size + 1, 1, none⟩ (.slice B7 q7 d7)).setCell ⟨w.heap.size + 1, 2, none⟩ (.slice X7 xn7 xc7)).setCell ⟨w.heap.size + 1, 3, none⟩ (.slice Y7 yn7 yc7)).setCell ⟨w.heap.size + 1, 4, none⟩ (.int .i64 t7)) (est_on hHeld (fun e => e.2.2.1 rfl) (.slice A7 n7 c7) (.slice B7 q7 d7) (.slice X7 xn7 xc7) (.slice Y7 yn7 yc7) (.int .i64 t7)) (fun hHeld => ?_)
        clear hK K0
        (try simp only [Act.put, sA, sB, sC])
        clear y0 y1 y2 y3 y4 f0 f1 f2 f3 f4
        have P8 := st_other P7.out (show w.heap.size + 1 ≠ w.heap.size + 1 + 1 by omega) (.slice A7 n7 c7) (.slice B7 q7 d7) (.slice X7 xn7 xc7) (.slice Y7 yn7 yc7) (.int .i64 t7)
        obtain ⟨z0, z1⟩ := (show _ ∧ _ from ⟨P8.cell 0 rfl, P8.cell 1 rfl⟩)
        obtain ⟨e0, e1⟩ := (show _ ∧ _ from ⟨P8.loose 0, P8.loose 1⟩)
        refine wpAnyH_ready (rs := [11]) (by kernel_rfl) (by simp) ?_
        refine AllReadyH.cons (i := 11) rfl (fun K0 hK => ?_) AllReadyH.nil
        go_simp
        refine hK.out _ (((((((w7.setCell ⟨w.heap.size + 1, 0, none⟩ (.slice A7 n7 c7)).setCell ⟨w.heap.size + 1, 1, none⟩ (.slice B7 q7 d7)).setCell ⟨w.heap.size + 1, 2, none⟩ (.slice X7 xn7 xc7)).setCell ⟨w.heap.size + 1, 3, none⟩ (.slice Y7 yn7 yc7)).setCell ⟨w.heap.size + 1, 4, none⟩ (.int .i64 t7)).setCell ⟨w.heap.size + 1 + 1, 0, none⟩ (.int .i64 O.E)).setCell ⟨w.heap.size + 1 + 1, 1, none⟩ (.int .i64 O.I)) (erp_on hHeld (fun e => e.2.2.2 rfl) _ _) (fun hHeld => ?_)
        clear hK K0
        (try simp only [Act.put, sA, sB, sC])
        refine wpAnyH_done (by kernel_rfl) ?_ _
        clear hHeld z0 z1 e0 e1
        go_wp2
        have HT2 := rp_other (st_put Z7.out rfl (.slice A7 n7 c7) (.slice B7 q7 d7) (.slice X7 xn7 xc7) (.slice Y7 yn7 yc7) (.int .i64 t7)) (show w.heap.size + 1 + 1 ≠ w.heap.size + 1 by omega) (.int .i64 O.E) (.int .i64 O.I)
        have P6 := st_other P7.out (show w.heap.size + 1 ≠ w.heap.size + 1 + 1 by omega) (.slice A7 n7 c7) (.slice B7 q7 d7) (.slice X7 xn7 xc7) (.slice Y7 yn7 yc7) (.int .i64 t7)
        have HT3 := rp_put P6 rfl (.int .i64 O.E) (.int .i64 O.I)
        have HTV := sk_rp (sk_zero HV7.out Z7.out (.slice A7 n7 c7) (.slice B7 q7 d7) (.slice X7 xn7 xc7) (.slice Y7 yn7 yc7) (.int .i64 t7)) P6 (.int .i64 O.E) (.int .i64 O.I)
        have HTB := rp_below (st_below L7.out (show w.heap.size ≤ w.heap.size + 1 by omega) (.slice A7 n7 c7) (.slice B7 q7 d7) (.slice X7 xn7 xc7) (.slice Y7 yn7 yc7) (.int .i64 t7)) (show w.heap.size ≤ w.heap.size + 1 + 1 by omega) (.int .i64 O.E) (.int .i64 O.I)
        refine bodyPost_ret (results_two (p := 2) (q := 3) (ty := 35) (tz := 46) rfl _ _ (w.heap.size + 1) (w.heap.size + 1 + 1) _ _ _ _ (0, 0) _ _ rfl HT2 Tryz.underlying35 rfl (by kernel_rfl) rfl HT3 Tryz.underlying46 rfl (by kernel_rfl)) rfl ?_
        exact ⟨⟨A7, n7, c7, B7, q7, d7, X7, xn7, xc7, Y7, yn7, yc7, t7⟩, rfl, HTV, HTB, fun p hp hq => HNW.out p (fun b hb => hp b (by omega)) (HIN.out p (fun b hb => hp b (by omega)))⟩
end Go.Proofs.YteifgmdaggiaaaaGreatDoor
