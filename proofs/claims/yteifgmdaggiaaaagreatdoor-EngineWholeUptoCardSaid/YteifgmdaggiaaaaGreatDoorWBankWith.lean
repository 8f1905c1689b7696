/-
  A state that knows other keys: the program's with (bank) by its contract.
-/
import Derived.Test.YteifgmdaggiaaaaGreatDoorWBankTwo
import Derived.Test.YteifgmdaggiaaaaGreatDoorWCloneAccs
import Derived.Test.YteifgmdaggiaaaaGreatDoorWGrA
import Derived.Deep.RegionHeld3
set_option linter.unusedSimpArgs false
namespace Go.Proofs.YteifgmdaggiaaaaGreatDoor
open Go Go.RowKit
set_option linter.unusedVariables false
set_option maxRecDepth 100000 in
set_option maxHeartbeats 1000000 in
theorem bwith_any (V : Sv) (T : St) (sl : List Sg) (kl kl2 : List Kn) (K : Option Addr) (kn kc : Nat) (w : World) (h : SkAt w V T sl kl) (hf : Fits T sl kl) (hk : RdS known w K kl2) (hkn : kl2.length = kn) (hks : Sl K kn kc) :
  Calls Tryz.prog 39 #[V.val, .slice K kn kc] w fun e w' => ∃ V' : Sv, e = .returned V'.val ∧ SkAt w' V' T sl kl2 ∧ Below w.heap.size w w' ∧ (∀ p : Nat → Prop, (∀ b, w.heap.size ≤ b → p b) → (∀ a, K = some a → p a.block) → V'.in_ p) := by
 have HKR := Lib.hid hk
 have HKN := Lib.hid hkn
 have HKS := Lib.hid hks
 have hsl := hf.sl
 have hq64 := hf.q
 have HN : Hid (T.acs.length = V.n) := Lib.hid h.n
 have HQ : Hid (T.pys.length = V.q) := Lib.hid h.q
 have HXN : Hid (sl.length = V.xn) := Lib.hid h.xn
 have HT : Hid (T.now = V.t) := Lib.hid h.t
 have hn64 : V.n ≤ 1000000 := by have := hf.n; have := h.n; omega
 obtain ⟨A, n, c, B, q, d, X, xn, xc, Y, yn, yc, t⟩ := V
 obtain ⟨q1, q2, q3⟩ := st2_all w #[.slice A n c, .slice B q d, .slice X xn xc, .slice Y yn yc, .int .i64 t]
 have HS0 := Lib.hid q1
 have HZ0 := Lib.hid q2
 have HBL := Lib.hid q3
 have HV0 := Lib.hid (h.below q3)
 have HSP := Lib.hid (show RdV pays _ (.slice B q d) T.pys from ⟨B, d, by rw [h.q], HV0.out.pays, by rw [h.q]; exact h.sp⟩)
 have HSX := Lib.hid HV0.out.rx
 unfold Sv.val Sv.cells
 dsimp only at HN HQ HXN HT hn64 HSX ⊢
 clear h hf hk hkn hks q1 q2 q3
 go_enter Tryz.func39, Tryz.ntmps39
 go_upto_region 1 with fail
 generalize ((w.alloc (.cells #[.slice A n c, .slice B q d, .slice X xn xc, .slice Y yn yc, .int .i64 t] 35)).alloc (.cells st0 35)) = w0 at HS0 HZ0 HBL HV0 HSP HSX ⊢
 refine wp_region_held_drew (S := fun w' => Blk w' w.heap.size 35 #[.slice A n c, .slice B q d, .slice X xn xc, .slice Y yn yc, .int .i64 t] ∧ Below w.heap.size w w') (by kernel_rfl) ⟨HS0.out.drew, HBL.out.drew⟩ (fun hHeld => ?_)
 refine tk 0 5 (v := ?_) ?_ ?_
 rotate_left
 · intro w' hSw
   go_simp
   (try with_reducible rfl)
 (try simp only [Act.put, sA, sB, sC])
 refine tk 1 6 (v := ?_) ?_ ?_
 rotate_left
 · intro w' hSw
   have hSw' := hSw
   (try dsimp only at hSw')
   obtain ⟨k0, k1, k2, k3, k4⟩ := (show _ ∧ _ ∧ _ ∧ _ ∧ _ from ⟨hSw'.1.cell 0 rfl, hSw'.1.cell 1 rfl, hSw'.1.cell 2 rfl, hSw'.1.cell 3 rfl, hSw'.1.cell 4 rfl⟩)
   go_simp
   (try with_reducible rfl)
 (try simp only [Act.put, sA, sB, sC])
 refine tk 3 8 (v := ?_) ?_ ?_
 rotate_left
 · intro w' hSw
   go_simp
   (try with_reducible rfl)
 (try simp only [Act.put, sA, sB, sC])
 refine tk 4 9 (v := ?_) ?_ ?_
 rotate_left
 · intro w' hSw
   have hSw' := hSw
   (try dsimp only at hSw')
   obtain ⟨k0, k1, k2, k3, k4⟩ := (show _ ∧ _ ∧ _ ∧ _ ∧ _ from ⟨hSw'.1.cell 0 rfl, hSw'.1.cell 1 rfl, hSw'.1.cell 2 rfl, hSw'.1.cell 3 rfl, hSw'.1.cell 4 rfl⟩)
   go_simp
   (try with_reducible rfl)
 (try simp only [Act.put, sA, sB, sC])
 refine tk 6 11 (v := ?_) ?_ ?_
 rotate_left
 · intro w' hSw
   go_simp
   (try with_reducible rfl)
 (try simp only [Act.put, sA, sB, sC])
 refine tk 7 12 (v := ?_) ?_ ?_
 rotate_left
 · intro w' hSw
   have hSw' := hSw
   (try dsimp only at hSw')
   obtain ⟨k0, k1, k2, k3, k4⟩ := (show _ ∧ _ ∧ _ ∧ _ ∧ _ from ⟨hSw'.1.cell 0 rfl, hSw'.1.cell 1 rfl, hSw'.1.cell 2 rfl, hSw'.1.cell 3 rfl, hSw'.1.cell 4 rfl⟩)
   go_simp
   (try with_reducible rfl)
 (try simp only [Act.put, sA, sB, sC])
 refine tk 9 14 (v := ?_) ?_ ?_
 rotate_left
 · intro w' hSw
   go_simp
   (try with_reducible rfl)
 (try simp only [Act.put, sA, sB, sC])
 refine tk 10 15 (v := ?_) ?_ ?_
 rotate_left
 · intro w' hSw
   go_simp
   (try with_reducible rfl)
 (try simp only [Act.put, sA, sB, sC])
 refine tk 11 16 (v := ?_) ?_ ?_
 rotate_left
 · intro w' hSw
   have hSw' := hSw
   (try dsimp only at hSw')
   obtain ⟨k0, k1, k2, k3, k4⟩ := (show _ ∧ _ ∧ _ ∧ _ ∧ _ from ⟨hSw'.1.cell 0 rfl, hSw'.1.cell 1 rfl, hSw'.1.cell 2 rfl, hSw'.1.cell 3 rfl, hSw'.1.cell 4 rfl⟩)
   go_simp
   (try with_reducible rfl)
 (try simp only [Act.put, sA, sB, sC])
 refine wpAnyH_ready (rs := [2]) (by kernel_rfl) (by simp) ?_
 refine AllReadyH.cons (i := 2) rfl (fun K hK => ?_) AllReadyH.nil
 go_simp
 go_at_call 77
 refine (clone_accs A n c T.acs _ HN.out HV0.out.accs.drew HV0.out.sa hn64).mono ?_
 rintro _ w1 ⟨v1, rfl, ho1, hb1⟩
 obtain ⟨A1, c1, hv1, hr1, hk1, hm1, hx1⟩ := ho1.form
 rw [HN.out] at hv1 hk1 hx1
 subst hv1
 have hb1' : Below w0.heap.size w0 w1 := (Below.refl w0.heap.size w0).drew.trans hb1
 refine hK.out _ _ ⟨HS0.out.later hb1', HBL.out.trans (hb1'.mono HBL.out.size)⟩ (fun hHeld => ?_)
 clear hK K
 (try simp only [Act.put, sA, sB, sC])
 refine wpAnyH_ready (rs := [5]) (by kernel_rfl) (by simp) ?_
 refine AllReadyH.cons (i := 5) rfl (fun K hK => ?_) AllReadyH.nil
 go_simp
 go_at_call 78
 refine (clone_pays _ T.pys _ (HSP.out.below hb1') hq64).mono ?_
 rintro _ w2 ⟨vp, rfl, ho2, hb2⟩
 obtain ⟨P2, d2, hv2, hr2, hk2, hm2, hx2⟩ := ho2.form
 rw [HQ.out] at hv2 hk2 hx2
 subst hv2
 have hb2' : Below w0.heap.size w0 w2 := hb1'.trans (hb2.mono hb1'.size)
 refine hK.out _ _ ⟨HS0.out.later hb2', HBL.out.trans (hb2'.mono HBL.out.size)⟩ (fun hHeld => ?_)
 clear hK K
 (try simp only [Act.put, sA, sB, sC])
 refine wpAnyH_ready (rs := [8]) (by kernel_rfl) (by simp) ?_
 refine AllReadyH.cons (i := 8) rfl (fun K hK => ?_) AllReadyH.nil
 go_simp
 go_at_call 79
 refine (clone_sagas _ sl _ (HSX.out.below hb2') hsl).mono ?_
 rintro _ w3 ⟨vs, rfl, ho3, hb3⟩
 obtain ⟨P3, d3, hv3, hr3, hk3, hm3, hx3⟩ := ho3.form
 rw [HXN.out] at hv3 hk3 hx3
 subst hv3
 have hb3' : Below w0.heap.size w0 w3 := hb2'.trans (hb3.mono hb2'.size)
 refine hK.out _ _ ⟨HS0.out.later hb3', HBL.out.trans (hb3'.mono HBL.out.size)⟩ (fun hHeld => ?_)
 clear hK K
 (try simp only [Act.put, sA, sB, sC])
 refine tk 12 17 (v := ?_) ?_ ?_
 rotate_left
 · intro w' hSw
   go_simp
   (try with_reducible rfl)
 (try simp only [Act.put, sA, sB, sC])
 obtain ⟨y0, y1, y2, y3, y4⟩ := (show _ ∧ _ ∧ _ ∧ _ ∧ _ from ⟨(HZ0.out.later hb3').cell 0 rfl, (HZ0.out.later hb3').cell 1 rfl, (HZ0.out.later hb3').cell 2 rfl, (HZ0.out.later hb3').cell 3 rfl, (HZ0.out.later hb3').cell 4 rfl⟩)
 obtain ⟨f0, f1, f2, f3, f4⟩ := (show _ ∧ _ ∧ _ ∧ _ ∧ _ from ⟨(HZ0.out.later hb3').loose 0, (HZ0.out.later hb3').loose 1, (HZ0.out.later hb3').loose 2, (HZ0.out.later hb3').loose 3, (HZ0.out.later hb3').loose 4⟩)
 have HRES := Lib.hid (show SkAt w3 ⟨A1, n, c1, P2, q, d2, P3, xn, d3, K, kn, kc, t⟩ T sl kl2 from ⟨HN.out, HQ.out, HXN.out, HKN.out, HT.out, hr1.below (hb2.trans (hb3.mono hb2.size)), hr2.below hb3, hr3, HKR.out.below (HBL.out.trans (hb3'.mono HBL.out.size)), ⟨hx1, hk1, hm1⟩, ⟨hx2, hk2, hm2⟩, ⟨hx3, hk3, hm3⟩, HKS.out⟩)
 have HZ3 := Lib.hid (HZ0.out.later hb3')
 have HL3 := Lib.hid (HBL.out.trans (hb3'.mono HBL.out.size))
 have HS3 := Lib.hid (HS0.out.later hb3')
 have HO1 := Lib.hid (fun b e => ho1.rowLt b e)
 have HO2 := Lib.hid (fun b e => ho2.rowLt b e)
 have HO3 := Lib.hid (fun b e => ho3.rowLt b e)
 have z01 := HBL.out.size
 have z12 := hb1'.size
 have z23 := hb2'.size
 refine wpAnyH_ready (rs := [13]) (by kernel_rfl) (by simp) ?_
 refine AllReadyH.cons (i := 13) rfl (fun K' hK => ?_) AllReadyH.nil
 go_simp
 refine hK.out _ (((((w3.setCell ⟨w.heap.size + 1, 0, none⟩ (.slice A1 n c1)).setCell ⟨w.heap.size + 1, 1, none⟩ (.slice P2 q d2)).setCell ⟨w.heap.size + 1, 2, none⟩ (.slice P3 xn d3)).setCell ⟨w.heap.size + 1, 3, none⟩ (.slice K kn kc)).setCell ⟨w.heap.size + 1, 4, none⟩ (.int .i64 t)) ⟨st_other HS3.out (by omega) (.slice A1 n c1) (.slice P2 q d2) (.slice P3 xn d3) (.slice K kn kc) (.int .i64 t), st_below HL3.out (by omega) (.slice A1 n c1) (.slice P2 q d2) (.slice P3 xn d3) (.slice K kn kc) (.int .i64 t)⟩ (fun hHeld => ?_)
 clear hK K'
 (try simp only [Act.put, sA, sB, sC])
 refine wpAnyH_done (by kernel_rfl) ?_ _
 go_wp2
 have HP := st_put HZ3.out rfl (.slice A1 n c1) (.slice P2 q d2) (.slice P3 xn d3) (.slice K kn kc) (.int .i64 t)
 have HPB := st_below HL3.out (show w.heap.size ≤ w.heap.size + 1 by omega) (.slice A1 n c1) (.slice P2 q d2) (.slice P3 xn d3) (.slice K kn kc) (.int .i64 t)
 have HPV := sk_zero HRES.out HZ3.out (.slice A1 n c1) (.slice P2 q d2) (.slice P3 xn d3) (.slice K kn kc) (.int .i64 t)
 refine bodyPost_ret (results_cell_row (p := 4) (ty := 35) rfl _ _ (w.heap.size + 1) _ _ (0, 0) _ rfl HP Tryz.underlying35 rfl (by kernel_rfl)) rfl ?_
 exact ⟨⟨A1, n, c1, P2, q, d2, P3, xn, d3, K, kn, kc, t⟩, rfl, HPV, HPB, fun p hp hK => ⟨fun _ a e => hp _ (by dsimp only at e; subst e; have := HO1.out a.block rfl; simp only [World.drew] at this; omega), fun _ a e => hp _ (by dsimp only at e; subst e; have := HO2.out a.block rfl; omega), fun b e => hp _ (by have := HO3.out b (full_own e); omega), fun b e => by have e := full_own e; cases K with | none => cases e | some a => cases e; exact hK a rfl⟩⟩
end Go.Proofs.YteifgmdaggiaaaaGreatDoor
