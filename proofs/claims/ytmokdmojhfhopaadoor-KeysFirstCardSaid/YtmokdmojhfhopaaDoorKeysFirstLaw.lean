/-
  The statement KeysFirst by its walk.
-/
import Derived.Test.YtmokdmojhfhopaaDoorKeyWords
import Derived.Deep.RegionHeld
namespace Go.Proofs.YtmokdmojhfhopaaDoor
open Go Go.RowKit
set_option linter.unusedVariables false

set_option maxRecDepth 100000 in
set_option maxHeartbeats 4000000 in
theorem keysFirst_walk (w : World) (A : Option Addr) (n cap : Nat) (hi : IsRecs known Kn.fits w A n cap) (r : Rq) (hrf : r.fits) (xe xi : Int) (hxe : inI xe) (hxi : inI xi) (hh : HasErr w) :
    Calls Tryd.prog 5 #[.slice A n cap, r.val, .agg #[.int .i64 xe, .int .i64 xi]] w fun e w' => e = .returned (.bool true) ∧ Below w.heap.size w w' := by
  obtain ⟨ks, hl, hr, _, hnc, hcm, hnil⟩ := recs_list hi
  have hn : n ≤ 9223372036854775807 := by unfold maxLen at hcm; omega
  have hbf : inI r.b := ((Rq.fits_iff r).1 hrf).2.2.2.1
  have HL := Lib.hid hl
  have HP := Lib.hid (fun W (h : RdS known W A ks) => kput_any A n cap ks r W hl h hn hnil)
  have HZ := Lib.hid (((Rq7.new w 33 r.key r.op r.a r.b r.amt r.legs r.til).alloc (.cells #[.int .i64 xe, .int .i64 xi] 37) (by simp)))
  have HX := Lib.hid (Rq2.new (w.alloc (.cells #[.int .i64 r.key, .int .i64 r.op, .int .i64 r.a, .int .i64 r.b, .int .i64 r.amt, .int .i64 r.legs, .int .i64 r.til] 33)) 37 xe xi)
  have hz0 : (w.alloc (.cells #[.int .i64 r.key, .int .i64 r.op, .int .i64 r.a, .int .i64 r.b, .int .i64 r.amt, .int .i64 r.legs, .int .i64 r.til] 33)).heap.size = w.heap.size + 1 := by simp
  rw [hz0] at HX
  have HB0 := Lib.hid (((Below.refl w.heap.size w).alloc (Nat.le_refl _) (.cells #[.int .i64 r.key, .int .i64 r.op, .int .i64 r.a, .int .i64 r.b, .int .i64 r.amt, .int .i64 r.legs, .int .i64 r.til] 33)).alloc (by simp) (.cells #[.int .i64 xe, .int .i64 xi] 37))
  have HR := Lib.hid hr
  have HH := Lib.hid hh
  clear hi hl hr hh hz0 hrf hcm hxe hxi
  have HNIL := Lib.hid hnil
  clear hnil
  by_cases hE : putE ks r = 0
  · obtain ⟨hf, h256, hL⟩ := putE_zero hE
    rw [HL.out] at h256
    have HT : Hid (∀ W B c, RdS known W B (ks ++ [⟨r, 0, 0, false⟩]) → (B = none → n + 1 = 0 ∧ c = 0) → Calls Tryd.prog 11 #[.slice B (n + 1) c, .int .i64 r.key, .agg #[.int .i64 xe, .int .i64 xi]] W (KeyRes 0 (ks ++ [⟨r, xe, xi, true⟩]) W)) := Lib.hid (fun W B c hr hnil => by
      have h := ktell_any B (n + 1) c _ r.key xe xi W (by simp [HL.out]) hr (by omega) hnil
      rw [(put_told xe xi hf).1, (put_told xe xi hf).2] at h
      exact h)
    have HT2 : Hid (∀ W B c, RdS known W B (ks ++ [⟨r, xe, xi, true⟩]) → (B = none → n + 1 = 0 ∧ c = 0) → Calls Tryd.prog 11 #[.slice B (n + 1) c, .int .i64 r.key, .agg #[.int .i64 0, .int .i64 0]] W (KeyRes 6 [] W)) := Lib.hid (fun W B c hr hnil => by
      have h := ktell_any B (n + 1) c _ r.key 0 0 W (by simp [HL.out]) hr (by omega) hnil
      rw [(told_tell xe xi hf 0 0).1, (told_tell xe xi hf 0 0).2] at h
      exact h)
    have HK : Hid (∀ W B c, RdS known W B (ks ++ [⟨r, xe, xi, true⟩]) → Calls Tryd.prog 9 #[.slice B (n + 1) c, r.val] W (AskTold W (xe, xi, true))) := Lib.hid (fun W B c hr => by
      have h := kask_any B (n + 1) c _ r W (by simp [HL.out]) hr (by omega)
      rw [told_ask xe xi hf] at h
      exact h)
    have HP2 : Hid (∀ W B c, RdS known W B (ks ++ [⟨r, xe, xi, true⟩]) → (B = none → n + 1 = 0 ∧ c = 0) → Calls Tryd.prog 12 #[.slice B (n + 1) c, r.val] W (KeyRes 5 [] W)) := Lib.hid (fun W B c hr hnil => by
      have h := kput_any B (n + 1) c _ r W (by simp [HL.out]) hr (by omega) hnil
      rw [(told_put xe xi hf).1, (told_put xe xi hf).2] at h
      exact h)
    have HK2 : Hid (∀ W B c, RdS known W B (ks ++ [⟨r, xe, xi, true⟩]) → Calls Tryd.prog 9 #[.slice B (n + 1) c, (Rq.mk r.key r.op r.a (wrap64 (r.b + 1)) r.amt r.legs r.til).val] W (AskTold W (5, 0, true))) := Lib.hid (fun W B c hr => by
      have h := kask_any B (n + 1) c _ (Rq.mk r.key r.op r.a (wrap64 (r.b + 1)) r.amt r.legs r.til) W (by simp [HL.out]) hr (by omega)
      rw [told_other (q := Rq.mk r.key r.op r.a (wrap64 (r.b + 1)) r.amt r.legs r.til) xe xi hf rfl (fun h => wrap_next hbf (congrArg Rq.b h))] at h
      exact h)
    rw [hE, hL] at HP
    clear hE hf hL hbf
    obtain ⟨key, op, ra, rb, amt, legs, til⟩ := r
    unfold Rq.val at HP HK HP2 HK2 ⊢
    dsimp only at HZ HX HB0 HP HT HT2 HK HP2 HK2 ⊢
    go_enter Tryd.func5, Tryd.ntmps5
    go_wp2_with fail
    refine (kawake_ok _).mono ?_
    rintro _ w1 ⟨rfl, hb1⟩
    have hs1 : w.heap.size + 2 ≤ w1.heap.size := by have := hb1.size; simp at this; omega
    have HR1 := Lib.hid (((HR.out.alloc _).alloc _).below hb1)
    have HZ1 := Lib.hid (HZ.out.below hb1 (by simp; omega))
    have HX1 := Lib.hid (HX.out.below hb1 (by simp))
    have HB1 := Lib.hid (HB0.out.trans (hb1.mono (by simp; omega)))
    have hlt1 : w.heap.size < w1.heap.size := by omega
    have hlt1' : w.heap.size + 1 < w1.heap.size := by omega
    obtain ⟨z0, z1, z2, z3, z4, z5, z6⟩ := HZ1.out.cells
    clear hb1 HZ HX HB0 HR hs1
    go_wp2_with fail
    refine (HP.out _ HR1.out).mono ?_
    rintro _ w2 ⟨v2, rfl, ho2, hb2⟩
    rw [show errV 0 = .nilIface from rfl]
    obtain ⟨A2, c2, rfl, hr2, hc2, hm2, hn2⟩ := ho2.form
    rw [show (ks ++ [(⟨⟨key, op, ra, rb, amt, legs, til⟩, 0, 0, false⟩ : Kn)]).length = n + 1 by simp [HL.out]] at hn2 hc2 ⊢
    have hs2 := hb2.size
    have hlt2 : w.heap.size < w2.heap.size := by omega
    have hlt2' : w.heap.size + 1 < w2.heap.size := by omega
    have HKS2 := Lib.hid (HR1.out.below hb2)
    have HA2 := Lib.hid hr2
    have HN2 := Lib.hid hn2
    have HZ2 := Lib.hid (HZ1.out.below hb2 hlt1)
    have HX2 := Lib.hid (HX1.out.below hb2 hlt1')
    have HB2 := Lib.hid (HB1.out.trans (hb2.mono HB1.out.size))
    clear ho2 hb2 hr2 hn2 hm2 z0 z1 z2 z3 z4 z5 z6 HP HR1 HZ1 HX1 HB1 hs2 hlt1 hlt1'
    obtain ⟨z0, z1, z2, z3, z4, z5, z6⟩ := HZ2.out.cells
    obtain ⟨x0, x1⟩ := HX2.out.cells
    go_wp2_with fail
    refine (HT.out _ _ _ HA2.out HN2.out).mono ?_
    rintro _ w3 ⟨v3, rfl, ho3, hb3⟩
    rw [show errV 0 = .nilIface from rfl]
    obtain ⟨A3, c3, rfl, hr3, hc3, hm3, hn3⟩ := ho3.form
    rw [show (ks ++ [(⟨⟨key, op, ra, rb, amt, legs, til⟩, xe, xi, true⟩ : Kn)]).length = n + 1 by simp [HL.out]] at hn3 ⊢
    have hs3 := hb3.size
    have hlt3 : w.heap.size < w3.heap.size := by omega
    have hlt3' : w.heap.size + 1 < w3.heap.size := by omega
    have HKS3 := Lib.hid (HKS2.out.below hb3)
    have HA3 := Lib.hid (HA2.out.below hb3)
    have HD3 := Lib.hid hr3
    have HN3 := Lib.hid hn3
    have HZ3 := Lib.hid (HZ2.out.below hb3 hlt2)
    have HX3 := Lib.hid (HX2.out.below hb3 hlt2')
    have HB3 := Lib.hid (HB2.out.trans (hb3.mono HB2.out.size))
    clear ho3 hb3 hr3 hn3 hm3 hc3 z0 z1 z2 z3 z4 z5 z6 x0 x1 HT HKS2 HA2 HZ2 HX2 HB2 hs3 hlt2 hlt2' HN2
    obtain ⟨z0, z1, z2, z3, z4, z5, z6⟩ := HZ3.out.cells
    go_wp2_with fail
    refine (HK.out _ _ _ HD3.out).mono ?_
    rintro _ w4 ⟨rfl, hb4⟩
    dsimp only
    have hs4 := hb4.size
    have hlt4 : w.heap.size < w4.heap.size := by omega
    have hlt4' : w.heap.size + 1 < w4.heap.size := by omega
    have HKS4 := Lib.hid (HKS3.out.below hb4)
    have HA4 := Lib.hid (HA3.out.below hb4)
    have HD4 := Lib.hid (HD3.out.below hb4)
    have HZ4 := Lib.hid (HZ3.out.below hb4 hlt3)
    have HX4 := Lib.hid (HX3.out.below hb4 hlt3')
    have HB4 := Lib.hid (HB3.out.trans (hb4.mono HB3.out.size))
    have HY4 := Lib.hid (Rq2.new w4 37 xe xi)
    clear hb4 z0 z1 z2 z3 z4 z5 z6 HK HKS3 HA3 HZ3 HX3 HB3 hs4 hlt3 hlt3' HD3
    obtain ⟨z0, z1, z2, z3, z4, z5, z6⟩ := HZ4.out.cells
    go_wp2_with fail
    refine (HT2.out _ _ _ (HD4.out.alloc _) HN3.out).mono ?_
    rintro _ w5 ⟨v5, rfl, ho5, hb5⟩
    rw [show errV 6 = eno 6 from rfl]
    have hs5 : w4.heap.size < w5.heap.size := by have := hb5.size; simp at this; omega
    have hlt5 : w.heap.size < w5.heap.size := by omega
    have hlt5' : w.heap.size + 1 < w5.heap.size := by omega
    have HKS5 := Lib.hid ((HKS4.out.alloc _).below hb5)
    have HA5 := Lib.hid ((HA4.out.alloc _).below hb5)
    have HD5 := Lib.hid ((HD4.out.alloc _).below hb5)
    have HZ5 := Lib.hid ((HZ4.out.alloc _ hlt4).below hb5 (by simp; omega))
    have HX5 := Lib.hid ((HX4.out.alloc _ hlt4').below hb5 (by simp; omega))
    have HY5 := Lib.hid (HY4.out.below hb5 (by simp))
    have HB5 := Lib.hid ((HB4.out.alloc (by omega) _).trans (hb5.mono (by simp; omega)))
    clear ho5 hb5 z0 z1 z2 z3 z4 z5 z6 HT2 HKS4 HA4 HZ4 HX4 HB4 HD4 HY4
    obtain ⟨z0, z1, z2, z3, z4, z5, z6⟩ := HZ5.out.cells
    go_wp2_with fail
    refine (HP2.out _ _ _ HD5.out HN3.out).mono ?_
    rintro _ w6 ⟨v6, rfl, ho6, hb6⟩
    rw [show errV 5 = eno 5 from rfl]
    have hs6 : w4.heap.size < w6.heap.size := by have := hb6.size; omega
    have hlt6 : w.heap.size < w6.heap.size := by omega
    have hlt6' : w.heap.size + 1 < w6.heap.size := by omega
    have HKS6 := Lib.hid (HKS5.out.below hb6)
    have HA6 := Lib.hid (HA5.out.below hb6)
    have HD6 := Lib.hid (HD5.out.below hb6)
    have HZ6 := Lib.hid (HZ5.out.below hb6 hlt5)
    have HX6 := Lib.hid (HX5.out.below hb6 hlt5')
    have HY6 := Lib.hid (HY5.out.below hb6 hs5)
    have HB6 := Lib.hid (HB5.out.trans (hb6.mono HB5.out.size))
    clear ho6 hb6 z0 z1 z2 z3 z4 z5 z6 HP2 HKS5 HA5 HZ5 HX5 HB5 HD5 HY5
    obtain ⟨z0, z1, z2, z3, z4, z5, z6⟩ := HZ6.out.cells
    go_wp2_with fail
    refine (HK2.out _ _ _ (HD6.out.alloc _)).mono ?_
    rintro _ w7 ⟨rfl, hb7⟩
    dsimp only
    have hs7 : w6.heap.size < w7.heap.size := by have := hb7.size; simp at this; omega
    have hlt7 : w4.heap.size < w7.heap.size := by omega
    have hlt7' : w.heap.size + 1 < w7.heap.size := by omega
    have HKS7 := Lib.hid ((HKS6.out.alloc _).below hb7)
    have HA7 := Lib.hid ((HA6.out.alloc _).below hb7)
    have HX7 := Lib.hid ((HX6.out.alloc _ hlt6').below hb7 (by simp; omega))
    have HY7 := Lib.hid ((HY6.out.alloc _ hs6).below hb7 (by simp; omega))
    have HB7 := Lib.hid ((HB6.out.alloc (by omega) _).trans (hb7.mono (by simp; omega)))
    have HW7 := Lib.hid (Rq2.new w7 37 5 0)
    clear hb7 z0 z1 z2 z3 z4 z5 z6 HK2 HKS6 HA6 HZ6 HX6 HB6 HD6 HY6 hs6 hlt6 hlt6' hs5 hlt5 hlt5' hlt4 hlt4' HN3
    obtain ⟨x0, x1⟩ := HX7.out.cells
    obtain ⟨y0, y1⟩ := HY7.out.cells
    have hfr := fun W => run_frontK W A2 (n + 1) c2 n (by omega)
    have HBA := Lib.hid (HB7.out.alloc (by omega) (.cells #[.int .i64 5, .int .i64 0] 37))
    go_wp2_with fail
    refine (number_err 6 _ (HH.out.below HBA.out)).mono ?_
    rintro _ w8 ⟨rfl, hb8⟩
    have HW8 := Lib.hid (HW7.out.below hb8 (by simp))
    have HB8 := Lib.hid (HBA.out.trans (hb8.mono (by simp; omega)))
    have HKS8 := Lib.hid ((HKS7.out.alloc _).below hb8)
    have HA8 := Lib.hid ((HA7.out.alloc _).below hb8)
    have hs8 : w7.heap.size < w8.heap.size := by have := hb8.size; simp at this; omega
    clear hb8 HKS7 HA7 HX7 HY7 HW7 HB7 HBA x0 x1 y0 y1
    go_wp2_with fail
    refine (number_err 5 _ (HH.out.below HB8.out)).mono ?_
    rintro _ w9 ⟨rfl, hb9⟩
    have HW9 := Lib.hid (HW8.out.below hb9 hs8)
    have HB9 := Lib.hid (HB8.out.trans (hb9.mono HB8.out.size))
    have HKS9 := Lib.hid (HKS8.out.below hb9)
    have HA9 := Lib.hid (HA8.out.below hb9)
    obtain ⟨y0, y1⟩ := HW9.out.cells
    clear hb9 HKS8 HA8 HW8 HB8
    go_wp2_with fail
    refine (ksame_yes A2 A n c2 cap ks w9 HL.out (by have h := HA9.out.front n; rw [List.take_left' HL.out] at h; exact h) HKS9.out (by omega)).mono ?_
    rintro _ w10 ⟨rfl, hb10⟩
    have HB10 := Lib.hid (HB9.out.trans (hb10.mono HB9.out.size))
    clear hb10
    go_wp2
    go_ret
    exact ⟨rfl, HB10.out⟩
  · have hL := putL_no hE
    rw [hL] at HP
    have hv : errV (putE ks r) = eno (putE ks r) := by rw [errV, if_neg hE]
    rw [show KeyRes (putE ks r) [] = fun W e w' => ∃ v, e = .returned (.tuple #[v, eno (putE ks r)]) ∧ OwnS known w' W.heap.size v [] ∧ Below W.heap.size W w' by unfold KeyRes; rw [hv]] at HP
    obtain ⟨E, hEE⟩ : ∃ E, putE ks r = E := ⟨_, rfl⟩
    rw [hEE] at HP
    clear hE hL hbf hv hEE
    obtain ⟨key, op, ra, rb, amt, legs, til⟩ := r
    unfold Rq.val at HP ⊢
    dsimp only at HZ HX HB0 HP ⊢
    go_enter Tryd.func5, Tryd.ntmps5
    go_wp2_with fail
    refine (kawake_ok _).mono ?_
    rintro _ w1 ⟨rfl, hb1⟩
    have HR1 := Lib.hid (((HR.out.alloc _).alloc _).below hb1)
    have HZ1 := Lib.hid (HZ.out.below hb1 (by simp; omega))
    have HB1 := Lib.hid (HB0.out.trans (hb1.mono (by simp; omega)))
    obtain ⟨z0, z1, z2, z3, z4, z5, z6⟩ := HZ1.out.cells
    clear hb1 HZ HX HB0 HR
    go_wp2_with fail
    refine (HP.out _ HR1.out).mono ?_
    rintro _ w2 ⟨v2, rfl, ho2, hb2⟩
    obtain ⟨A2, c2, rfl, hr2, hc2, hm2, hn2⟩ := ho2.form
    rw [show ([] : List Kn).length = 0 from rfl]
    have HB2 := Lib.hid (HB1.out.trans (hb2.mono HB1.out.size))
    clear ho2 hb2 hr2 hn2 hm2 hc2 z0 z1 z2 z3 z4 z5 z6 HP HR1 HZ1 HB1
    go_wp2
    go_ret
    exact ⟨rfl, HB2.out⟩
end Go.Proofs.YtmokdmojhfhopaaDoor
