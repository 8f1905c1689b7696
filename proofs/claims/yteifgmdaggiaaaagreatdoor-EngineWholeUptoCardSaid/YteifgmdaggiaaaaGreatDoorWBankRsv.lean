/-
  The program's Reserve, Settle and Undo by their contracts.
-/
import Derived.Test.YteifgmdaggiaaaaGreatDoorWBankTwo
namespace Go.Proofs.YteifgmdaggiaaaaGreatDoor
open Go Go.RowKit
set_option linter.unusedVariables false
theorem owith_own (V : Sv) (T : St) (sl : List Sg) (kl : List Kn) (v : Value) (L : List Ac) (E : Int) (base : Nat) (w : World) (h : SkAt w V T sl kl) (hf : Fits T sl kl) (ho : OwnA w base v L) :
  Calls Tryz.prog 142 #[V.val, v, errV E] w (SkEA w V (fun p => V.in_ p ∧ ∀ b, v.ownBlock = some b → p b) (if E = 0 then ⟨L, T.pys, T.now⟩ else T) sl kl E) := by
 by_cases hE : E = 0
 · obtain ⟨A2, c2, rfl, h1, h2, h3, h4⟩ := ho.form
   rw [if_pos hE, hE]
   exact (owith_ok V T sl kl A2 _ c2 L w h hf h1 rfl ⟨h4, h2, h3⟩).mono fun e w' ⟨V', k1, k2, k3, k4, k5⟩ => ⟨V', k1, k2, k3, fun p hp hq => k4 p hp ⟨hq.1, fun _ a e => hq.2 a.block (by rw [e]; rfl)⟩, k5⟩
 · rw [if_neg hE, errV, if_neg hE]
   exact (owith_no V T sl kl v E hE w h).mono fun e w' ⟨V', k1, k2, k3, k4, k5⟩ => ⟨V', k1, k2, k3, fun p hp hq => k4 p hp hq.1, k5⟩
set_option maxRecDepth 100000 in
theorem oundo_own (V : Sv) (T : St) (sl : List Sg) (kl : List Kn) (r : Rq) (w : World) (h : SkAt w V T sl kl) (hf : Fits T sl kl) :
  Calls Tryz.prog 143 #[V.val, r.val] w (SkEA w V (fun p => V.in_ p) (undS T r) sl kl (undE T r)) := by
 unfold undS undE
 have HV := Lib.hid h
 have HF := Lib.hid hf
 have HH := Lib.hid (right_curs hf.rt)
 obtain ⟨A, n, c, B, q, d, X, xn, xc, Y, yn, yc, t⟩ := V
 obtain ⟨k, o, a, b, m, l, u⟩ := r
 obtain ⟨q1, q2, q3, q4⟩ := st3_all w #[.slice A n c, .slice B q d, .slice X xn xc, .slice Y yn yc, .int .i64 t] (rqC k o a b m l u)
 have HB1 := Lib.hid q1
 have HBR := Lib.hid q2
 have HB2 := Lib.hid q3
 have HBL := Lib.hid q4
 have hn64 : n ≤ 64 := by have h1 := h.n; have h2 := hf.n; dsimp only at h1; omega
 have HNIL : Hid (A = none → n = 0 ∧ c = 0) := Lib.hid h.sa.nil
 have HN : Hid (T.acs.length = n) := Lib.hid h.n
 have HRA := Lib.hid (fun W (hb : Below w.heap.size w W) => show RdA W A T.acs from h.accs.below hb)
 have HWI := Lib.hid (fun W (hb : Below w.heap.size w W) (base : Nat) (v : Value) (L : List Ac) (E : Int) (ho : OwnA W base v L) => owith_own ⟨A, n, c, B, q, d, X, xn, xc, Y, yn, yc, t⟩ T sl kl v L E base W (h.below hb) hf ho)
 unfold SkEA at HWI
 unfold Sv.val Sv.cells at HWI ⊢
 unfold Rq.val
 dsimp only at HWI ⊢
 clear h hf q1 q2 q3 q4
 have HRE := Lib.hid (fun W (hb : Below w.heap.size w W) => release_any A n c T.acs a m W HN.out (HRA.out W hb) (by omega) HNIL.out)
 unfold LedRes at HRE
 generalize relE T.acs a m = E at HRE ⊢
 generalize relL T.acs a m = L at HRE ⊢
 have HWJ := Lib.hid (fun W (hb : Below w.heap.size w W) (base : Nat) (v : Value) (ho : OwnA W base v L) => HWI.out W hb base v L E ho)
 clear HWI
 generalize (if E = 0 then (⟨L, T.pys, T.now⟩ : St) else T) = S9 at HWJ ⊢
 go_enter Tryz.func143, Tryz.ntmps143
 go_upto_region 1 with fail
 generalize (((w.alloc (.cells #[.slice A n c, .slice B q d, .slice X xn xc, .slice Y yn yc, .int .i64 t] 35)).alloc (.cells (rqC k o a b m l u) 42)).alloc (.cells st0 35)) = w3 at HB1 HBR HB2 HBL ⊢
 have hsz3 : w.heap.size + 1 + 1 < w3.heap.size := HB2.out.lt
 have x0 := HB1.out.cell 0 rfl
 obtain ⟨r2, r4⟩ := (show _ ∧ _ from ⟨HBR.out.cell 2 rfl, HBR.out.cell 4 rfl⟩)
 go_upto_region 2 with (first | (go_at_call 164; refine (HRE.out _ HBL.out).mono ?_; rintro _ w4 ⟨v4, rfl, ho4, hb4⟩))
 have HO4 := Lib.hid ho4
 have HB14 := Lib.hid (HB1.out.later hb4)
 have HB24 := Lib.hid (HB2.out.later hb4)
 have HL4 := Lib.hid (HBL.out.trans (hb4.mono HBL.out.size))
 clear x0 r2 r4 ho4 hb4 HB1 HB2 HBR HRE
 obtain ⟨x0, x1, x2, x3, x4⟩ := (show _ ∧ _ ∧ _ ∧ _ ∧ _ from ⟨HB14.out.cell 0 rfl, HB14.out.cell 1 rfl, HB14.out.cell 2 rfl, HB14.out.cell 3 rfl, HB14.out.cell 4 rfl⟩)
 go_wp2_with (first | (go_at_call 142; refine (HWJ.out _ HL4.out _ _ HO4.out).mono ?_; rintro _ w9 ⟨V9, rfl, hv9, hb9, hn9, ha9⟩
                       obtain ⟨A9, n9, c9, B9, q9, d9, X9, xn9, xc9, Y9, yn9, yc9, t9⟩ := V9
                       dsimp only at hv9 ⊢
                       have HV9 := Lib.hid hv9
                       have HN9 := Lib.hid hn9
                       have HA9 := Lib.hid ha9
                       have HZ9 := Lib.hid ((HB24.out).later hb9)
                       have HL9 := Lib.hid ((HL4.out).trans (hb9.mono (HL4.out).size))
                       obtain ⟨y0, y1, y2, y3, y4⟩ := (show _ ∧ _ ∧ _ ∧ _ ∧ _ from ⟨HZ9.out.cell 0 rfl, HZ9.out.cell 1 rfl, HZ9.out.cell 2 rfl, HZ9.out.cell 3 rfl, HZ9.out.cell 4 rfl⟩)
                       obtain ⟨f0, f1, f2, f3, f4⟩ := (show _ ∧ _ ∧ _ ∧ _ ∧ _ from ⟨HZ9.out.loose 0, HZ9.out.loose 1, HZ9.out.loose 2, HZ9.out.loose 3, HZ9.out.loose 4⟩)
                       clear hv9 hb9 hn9 ha9 x0 x1 x2 x3 x4))
 have HP := st_put HZ9.out rfl (.slice A9 n9 c9) (.slice B9 q9 d9) (.slice X9 xn9 xc9) (.slice Y9 yn9 yc9) (.int .i64 t9)
 have HPB := st_below HL9.out (show w.heap.size ≤ w.heap.size + 1 + 1 by omega) (.slice A9 n9 c9) (.slice B9 q9 d9) (.slice X9 xn9 xc9) (.slice Y9 yn9 yc9) (.int .i64 t9)
 have HPV := sk_zero HV9.out HZ9.out (.slice A9 n9 c9) (.slice B9 q9 d9) (.slice X9 xn9 xc9) (.slice Y9 yn9 yc9) (.int .i64 t9)
 refine bodyPost_ret (results_st1 (p := 4) (x := 5) (ty := 35) rfl _ _ (w.heap.size + 1 + 1) _ _ (0, 0) _ rfl HP Tryz.underlying35 rfl (by kernel_rfl)) rfl ?_
 exact ⟨⟨A9, n9, c9, B9, q9, d9, X9, xn9, xc9, Y9, yn9, yc9, t9⟩, rfl, HPV, HPB, fun p hp hq => HN9.out p (fun b hb => hp b (by have := (HL4.out).size; omega)) ⟨hq, fun b e => hp b (by have := (HO4.out).rowLt b e; have := (HBL.out).size; omega)⟩, fun base hbase ha => (HA9.out base (by have := (HL4.out).size; omega) (ha.below HL4.out)).put HZ9.out _ _ _ _ _⟩
set_option maxRecDepth 100000 in
set_option maxHeartbeats 1000000 in
theorem osettle_own (V : Sv) (T : St) (sl : List Sg) (kl : List Kn) (r : Rq) (w : World) (h : SkAt w V T sl kl) (hf : Fits T sl kl) :
  Calls Tryz.prog 106 #[V.val, r.val] w (SkEA w V (fun p => V.in_ p) (setS T r) sl kl (setE T r)) := by
 unfold setS setE
 have HV := Lib.hid h
 have HF := Lib.hid hf
 have HH := Lib.hid (right_curs hf.rt)
 obtain ⟨A, n, c, B, q, d, X, xn, xc, Y, yn, yc, t⟩ := V
 obtain ⟨k, o, a, b, m, l, u⟩ := r
 obtain ⟨q1, q2, q3, q4⟩ := st3_all w #[.slice A n c, .slice B q d, .slice X xn xc, .slice Y yn yc, .int .i64 t] (rqC k o a b m l u)
 have HB1 := Lib.hid q1
 have HBR := Lib.hid q2
 have HB2 := Lib.hid q3
 have HBL := Lib.hid q4
 have hn64 : n ≤ 64 := by have h1 := h.n; have h2 := hf.n; dsimp only at h1; omega
 have HNIL : Hid (A = none → n = 0 ∧ c = 0) := Lib.hid h.sa.nil
 have HN : Hid (T.acs.length = n) := Lib.hid h.n
 have HRA := Lib.hid (fun W (hb : Below w.heap.size w W) => show RdA W A T.acs from h.accs.below hb)
 have HWI := Lib.hid (fun W (hb : Below w.heap.size w W) (base : Nat) (v : Value) (L : List Ac) (E : Int) (ho : OwnA W base v L) => owith_own ⟨A, n, c, B, q, d, X, xn, xc, Y, yn, yc, t⟩ T sl kl v L E base W (h.below hb) hf ho)
 unfold SkEA at HWI
 unfold Sv.val Sv.cells at HWI ⊢
 unfold Rq.val
 dsimp only at HWI ⊢
 clear h hf q1 q2 q3 q4
 have HMV := Lib.hid (fun W (hb : Below w.heap.size w W) => move_any A n c T.acs a b m W HN.out (HRA.out W hb) HH.out (by omega))
 unfold MoveRes at HMV
 have hel : (moveL T.acs a b m).length ≤ 4 := moveL_len T.acs a b m
 generalize moveL T.acs a b m = es at HMV hel ⊢
 by_cases hm : moveE T.acs a b m = 0
 · rw [hm, show errV 0 = .nilIface from rfl] at HMV
   simp only [if_pos hm]
   have HSP := Lib.hid (fun W (hb : Below w.heap.size w W) (C : Option Addr) (cc : Nat) (hre : RdE W C es) => spend_any A C n es.length c cc T.acs m es W HN.out (HRA.out W hb) rfl hre (by omega) (by omega) HNIL.out)
   unfold LedRes at HSP
   generalize spendE T.acs m es = E at HSP ⊢
   generalize spendL T.acs m es = L at HSP ⊢
   have HWJ := Lib.hid (fun W (hb : Below w.heap.size w W) (base : Nat) (v : Value) (ho : OwnA W base v L) => HWI.out W hb base v L E ho)
   clear HWI
   generalize (if E = 0 then (⟨L, T.pys, T.now⟩ : St) else T) = S9 at HWJ ⊢
   have HEL := Lib.hid hel
   clear hm hel
   go_enter Tryz.func106, Tryz.ntmps106
   go_upto_region 1 with fail
   generalize (((w.alloc (.cells #[.slice A n c, .slice B q d, .slice X xn xc, .slice Y yn yc, .int .i64 t] 35)).alloc (.cells (rqC k o a b m l u) 42)).alloc (.cells st0 35)) = w3 at HB1 HBR HB2 HBL ⊢
   have hsz3 : w.heap.size + 1 + 1 < w3.heap.size := HB2.out.lt
   have x0 := HB1.out.cell 0 rfl
   obtain ⟨r2, r3, r4⟩ := (show _ ∧ _ ∧ _ from ⟨HBR.out.cell 2 rfl, HBR.out.cell 3 rfl, HBR.out.cell 4 rfl⟩)
   go_upto_region 4 with (first | (go_at_call 141; refine (HMV.out _ HBL.out).mono ?_; rintro _ w4 ⟨v4, rfl, ho4, hb4⟩))
   obtain ⟨C4, cc4, rfl, hre4, _, _, _⟩ := ho4.form
   have HRE4 := Lib.hid hre4
   have HB14 := Lib.hid (HB1.out.later hb4)
   have HBR4 := Lib.hid (HBR.out.later hb4)
   have HB24 := Lib.hid (HB2.out.later hb4)
   have HL4 := Lib.hid (HBL.out.trans (hb4.mono HBL.out.size))
   clear x0 r2 r3 r4 ho4 hre4 hb4 HB1 HB2 HBR HBL HMV
   have x0 := HB14.out.cell 0 rfl
   have r4 := HBR4.out.cell 4 rfl
   go_upto_region 5 with (first | (go_at_call 144; refine (HSP.out _ HL4.out _ _ HRE4.out).mono ?_; rintro _ w5 ⟨v5, rfl, ho5, hb5⟩))
   have HO5 := Lib.hid ho5
   have HB15 := Lib.hid (HB14.out.later hb5)
   have HB25 := Lib.hid (HB24.out.later hb5)
   have HL5 := Lib.hid (HL4.out.trans (hb5.mono HL4.out.size))
   clear x0 r4 ho5 hb5 HB14 HB24 HBR4 HSP
   obtain ⟨x0, x1, x2, x3, x4⟩ := (show _ ∧ _ ∧ _ ∧ _ ∧ _ from ⟨HB15.out.cell 0 rfl, HB15.out.cell 1 rfl, HB15.out.cell 2 rfl, HB15.out.cell 3 rfl, HB15.out.cell 4 rfl⟩)
   go_wp2_with (first | (go_at_call 142; refine (HWJ.out _ HL5.out _ _ HO5.out).mono ?_; rintro _ w9 ⟨V9, rfl, hv9, hb9, hn9, ha9⟩
                         obtain ⟨A9, n9, c9, B9, q9, d9, X9, xn9, xc9, Y9, yn9, yc9, t9⟩ := V9
                         dsimp only at hv9 ⊢
                         have HV9 := Lib.hid hv9
                         have HN9 := Lib.hid hn9
                         have HA9 := Lib.hid ha9
                         have HZ9 := Lib.hid ((HB25.out).later hb9)
                         have HL9 := Lib.hid ((HL5.out).trans (hb9.mono (HL5.out).size))
                         obtain ⟨y0, y1, y2, y3, y4⟩ := (show _ ∧ _ ∧ _ ∧ _ ∧ _ from ⟨HZ9.out.cell 0 rfl, HZ9.out.cell 1 rfl, HZ9.out.cell 2 rfl, HZ9.out.cell 3 rfl, HZ9.out.cell 4 rfl⟩)
                         obtain ⟨f0, f1, f2, f3, f4⟩ := (show _ ∧ _ ∧ _ ∧ _ ∧ _ from ⟨HZ9.out.loose 0, HZ9.out.loose 1, HZ9.out.loose 2, HZ9.out.loose 3, HZ9.out.loose 4⟩)
                         clear hv9 hb9 hn9 ha9 x0 x1 x2 x3 x4))
   have HP := st_put HZ9.out rfl (.slice A9 n9 c9) (.slice B9 q9 d9) (.slice X9 xn9 xc9) (.slice Y9 yn9 yc9) (.int .i64 t9)
   have HPB := st_below HL9.out (show w.heap.size ≤ w.heap.size + 1 + 1 by omega) (.slice A9 n9 c9) (.slice B9 q9 d9) (.slice X9 xn9 xc9) (.slice Y9 yn9 yc9) (.int .i64 t9)
   have HPV := sk_zero HV9.out HZ9.out (.slice A9 n9 c9) (.slice B9 q9 d9) (.slice X9 xn9 xc9) (.slice Y9 yn9 yc9) (.int .i64 t9)
   refine bodyPost_ret (results_st1 (p := 4) (x := 5) (ty := 35) rfl _ _ (w.heap.size + 1 + 1) _ _ (0, 0) _ rfl HP Tryz.underlying35 rfl (by kernel_rfl)) rfl ?_
   exact ⟨⟨A9, n9, c9, B9, q9, d9, X9, xn9, xc9, Y9, yn9, yc9, t9⟩, rfl, HPV, HPB, fun p hp hq => HN9.out p (fun b hb => hp b (by have := (HL5.out).size; omega)) ⟨hq, fun b e => hp b (by have := (HO5.out).rowLt b e; have := (HL4.out).size; omega)⟩, fun base hbase ha => (HA9.out base (by have := (HL5.out).size; omega) (ha.below HL5.out)).put HZ9.out _ _ _ _ _⟩
 · simp only [if_neg hm]
   have HE := Lib.hid hm
   rw [errV, if_neg hm] at HMV
   have hid_ : errV (moveE T.acs a b m) = eno (moveE T.acs a b m) := by rw [errV, if_neg hm]
   have HEV := Lib.hid hid_
   generalize moveE T.acs a b m = E at HMV HE HEV ⊢
   clear hm hel hid_ HWI
   go_enter Tryz.func106, Tryz.ntmps106
   go_upto_region 1 with fail
   generalize (((w.alloc (.cells #[.slice A n c, .slice B q d, .slice X xn xc, .slice Y yn yc, .int .i64 t] 35)).alloc (.cells (rqC k o a b m l u) 42)).alloc (.cells st0 35)) = w3 at HB1 HBR HB2 HBL ⊢
   have hsz3 : w.heap.size + 1 + 1 < w3.heap.size := HB2.out.lt
   have x0 := HB1.out.cell 0 rfl
   obtain ⟨r2, r3, r4⟩ := (show _ ∧ _ ∧ _ from ⟨HBR.out.cell 2 rfl, HBR.out.cell 3 rfl, HBR.out.cell 4 rfl⟩)
   go_upto_region 3 with (first | (go_at_call 141; refine (HMV.out _ HBL.out).mono ?_; rintro _ w4 ⟨v4, rfl, ho4, hb4⟩))
   have HB14 := Lib.hid (HB1.out.later hb4)
   have HB24 := Lib.hid (HB2.out.later hb4)
   have HL4 := Lib.hid (HBL.out.trans (hb4.mono HBL.out.size))
   clear x0 r2 r3 r4 ho4 hb4 HB1 HB2 HBR HBL HMV
   obtain ⟨x0, x1, x2, x3, x4⟩ := (show _ ∧ _ ∧ _ ∧ _ ∧ _ from ⟨HB14.out.cell 0 rfl, HB14.out.cell 1 rfl, HB14.out.cell 2 rfl, HB14.out.cell 3 rfl, HB14.out.cell 4 rfl⟩)
   obtain ⟨y0, y1, y2, y3, y4⟩ := (show _ ∧ _ ∧ _ ∧ _ ∧ _ from ⟨HB24.out.cell 0 rfl, HB24.out.cell 1 rfl, HB24.out.cell 2 rfl, HB24.out.cell 3 rfl, HB24.out.cell 4 rfl⟩)
   obtain ⟨f0, f1, f2, f3, f4⟩ := (show _ ∧ _ ∧ _ ∧ _ ∧ _ from ⟨HB24.out.loose 0, HB24.out.loose 1, HB24.out.loose 2, HB24.out.loose 3, HB24.out.loose 4⟩)
   go_wp2
   have HP := st_put HB24.out rfl (.slice A n c) (.slice B q d) (.slice X xn xc) (.slice Y yn yc) (.int .i64 t)
   have HPB := st_below HL4.out (show w.heap.size ≤ w.heap.size + 1 + 1 by omega) (.slice A n c) (.slice B q d) (.slice X xn xc) (.slice Y yn yc) (.int .i64 t)
   have HPV := sk_zero (HV.out.below HL4.out) HB24.out (.slice A n c) (.slice B q d) (.slice X xn xc) (.slice Y yn yc) (.int .i64 t)
   refine bodyPost_ret (results_st1 (p := 4) (x := 5) (ty := 35) rfl _ _ (w.heap.size + 1 + 1) _ _ (0, 0) _ rfl HP Tryz.underlying35 rfl (by kernel_rfl)) rfl ?_
   exact ⟨⟨A, n, c, B, q, d, X, xn, xc, Y, yn, yc, t⟩, by rw [HEV.out]; rfl, HPV, HPB, fun p _ hq => hq, fun base _ ha => (ha.below HL4.out).put HB24.out _ _ _ _ _⟩
set_option maxRecDepth 100000 in
set_option maxHeartbeats 1000000 in
theorem oreserve_own (V : Sv) (T : St) (sl : List Sg) (kl : List Kn) (r : Rq) (w : World) (h : SkAt w V T sl kl) (hf : Fits T sl kl) :
  Calls Tryz.prog 102 #[V.val, r.val] w (SkEA w V (fun p => V.in_ p) (rsvS T r) sl kl (rsvE T r)) := by
 unfold rsvS rsvE
 have HV := Lib.hid h
 have HF := Lib.hid hf
 have HH := Lib.hid (right_curs hf.rt)
 obtain ⟨A, n, c, B, q, d, X, xn, xc, Y, yn, yc, t⟩ := V
 obtain ⟨k, o, a, b, m, l, u⟩ := r
 obtain ⟨q1, q2, q3, q4⟩ := st3_all w #[.slice A n c, .slice B q d, .slice X xn xc, .slice Y yn yc, .int .i64 t] (rqC k o a b m l u)
 have HB1 := Lib.hid q1
 have HBR := Lib.hid q2
 have HB2 := Lib.hid q3
 have HBL := Lib.hid q4
 have hn64 : n ≤ 64 := by have h1 := h.n; have h2 := hf.n; dsimp only at h1; omega
 have HNIL : Hid (A = none → n = 0 ∧ c = 0) := Lib.hid h.sa.nil
 have HN : Hid (T.acs.length = n) := Lib.hid h.n
 have HRA := Lib.hid (fun W (hb : Below w.heap.size w W) => show RdA W A T.acs from h.accs.below hb)
 have HWI := Lib.hid (fun W (hb : Below w.heap.size w W) (base : Nat) (v : Value) (L : List Ac) (E : Int) (ho : OwnA W base v L) => owith_own ⟨A, n, c, B, q, d, X, xn, xc, Y, yn, yc, t⟩ T sl kl v L E base W (h.below hb) hf ho)
 unfold SkEA at HWI
 unfold Sv.val Sv.cells at HWI ⊢
 unfold Rq.val
 dsimp only at HWI ⊢
 clear h hf q1 q2 q3 q4
 have HAC := Lib.hid (fun W => areClients_any A n c a b W)
 rw [HN.out]
 by_cases hc : isC n a ∧ isC n b
 · simp only [if_pos hc]
   rw [decide_eq_true hc] at HAC
   clear hc
   have HMV := Lib.hid (fun W (hb : Below w.heap.size w W) => move_any A n c T.acs a b m W HN.out (HRA.out W hb) HH.out (by omega))
   unfold MoveRes at HMV
   by_cases hm : moveE T.acs a b m = 0
   · rw [hm, show errV 0 = .nilIface from rfl] at HMV
     simp only [if_pos hm]
     have HHO := Lib.hid (fun W (hb : Below w.heap.size w W) => hold_any A n c T.acs a m W HN.out (HRA.out W hb) (by omega) HNIL.out)
     unfold LedRes at HHO
     generalize holdE T.acs a m = E at HHO ⊢
     generalize holdL T.acs a m = L at HHO ⊢
     have HWJ := Lib.hid (fun W (hb : Below w.heap.size w W) (base : Nat) (v : Value) (ho : OwnA W base v L) => HWI.out W hb base v L E ho)
     clear HWI
     generalize (if E = 0 then (⟨L, T.pys, T.now⟩ : St) else T) = S9 at HWJ ⊢
     clear hm
     go_enter Tryz.func102, Tryz.ntmps102
     go_upto_region 1 with fail
     generalize (((w.alloc (.cells #[.slice A n c, .slice B q d, .slice X xn xc, .slice Y yn yc, .int .i64 t] 35)).alloc (.cells (rqC k o a b m l u) 42)).alloc (.cells st0 35)) = w3 at HB1 HBR HB2 HBL ⊢
     have hsz3 : w.heap.size + 1 + 1 < w3.heap.size := HB2.out.lt
     have x0 := HB1.out.cell 0 rfl
     obtain ⟨r2, r3, r4⟩ := (show _ ∧ _ ∧ _ from ⟨HBR.out.cell 2 rfl, HBR.out.cell 3 rfl, HBR.out.cell 4 rfl⟩)
     go_upto_region 3 with (first | (go_at_call 140; refine (HAC.out _).mono ?_; rintro _ w3' ⟨rfl, rfl⟩))
     clear HAC
     go_upto_region 6 with (first | (go_at_call 141; refine (HMV.out _ HBL.out).mono ?_; rintro _ w4 ⟨v4, rfl, ho4, hb4⟩))
     have HB14 := Lib.hid (HB1.out.later hb4)
     have HBR4 := Lib.hid (HBR.out.later hb4)
     have HB24 := Lib.hid (HB2.out.later hb4)
     have HL4 := Lib.hid (HBL.out.trans (hb4.mono HBL.out.size))
     clear x0 r2 r3 r4 ho4 hb4 HB1 HB2 HBR HBL HMV
     have x0 := HB14.out.cell 0 rfl
     obtain ⟨r2, r4⟩ := (show _ ∧ _ from ⟨HBR4.out.cell 2 rfl, HBR4.out.cell 4 rfl⟩)
     go_upto_region 7 with (first | (go_at_call 34; refine (HHO.out _ HL4.out).mono ?_; rintro _ w5 ⟨v5, rfl, ho5, hb5⟩))
     have HO5 := Lib.hid ho5
     have HB15 := Lib.hid (HB14.out.later hb5)
     have HB25 := Lib.hid (HB24.out.later hb5)
     have HL5 := Lib.hid (HL4.out.trans (hb5.mono HL4.out.size))
     clear x0 r2 r4 ho5 hb5 HB14 HB24 HBR4 HHO
     obtain ⟨x0, x1, x2, x3, x4⟩ := (show _ ∧ _ ∧ _ ∧ _ ∧ _ from ⟨HB15.out.cell 0 rfl, HB15.out.cell 1 rfl, HB15.out.cell 2 rfl, HB15.out.cell 3 rfl, HB15.out.cell 4 rfl⟩)
     go_wp2_with (first | (go_at_call 142; refine (HWJ.out _ HL5.out _ _ HO5.out).mono ?_; rintro _ w9 ⟨V9, rfl, hv9, hb9, hn9, ha9⟩
                           obtain ⟨A9, n9, c9, B9, q9, d9, X9, xn9, xc9, Y9, yn9, yc9, t9⟩ := V9
                           dsimp only at hv9 ⊢
                           have HV9 := Lib.hid hv9
                           have HN9 := Lib.hid hn9
                           have HA9 := Lib.hid ha9
                           have HZ9 := Lib.hid ((HB25.out).later hb9)
                           have HL9 := Lib.hid ((HL5.out).trans (hb9.mono (HL5.out).size))
                           obtain ⟨y0, y1, y2, y3, y4⟩ := (show _ ∧ _ ∧ _ ∧ _ ∧ _ from ⟨HZ9.out.cell 0 rfl, HZ9.out.cell 1 rfl, HZ9.out.cell 2 rfl, HZ9.out.cell 3 rfl, HZ9.out.cell 4 rfl⟩)
                           obtain ⟨f0, f1, f2, f3, f4⟩ := (show _ ∧ _ ∧ _ ∧ _ ∧ _ from ⟨HZ9.out.loose 0, HZ9.out.loose 1, HZ9.out.loose 2, HZ9.out.loose 3, HZ9.out.loose 4⟩)
                           clear hv9 hb9 hn9 ha9 x0 x1 x2 x3 x4))
     have HP := st_put HZ9.out rfl (.slice A9 n9 c9) (.slice B9 q9 d9) (.slice X9 xn9 xc9) (.slice Y9 yn9 yc9) (.int .i64 t9)
     have HPB := st_below HL9.out (show w.heap.size ≤ w.heap.size + 1 + 1 by omega) (.slice A9 n9 c9) (.slice B9 q9 d9) (.slice X9 xn9 xc9) (.slice Y9 yn9 yc9) (.int .i64 t9)
     have HPV := sk_zero HV9.out HZ9.out (.slice A9 n9 c9) (.slice B9 q9 d9) (.slice X9 xn9 xc9) (.slice Y9 yn9 yc9) (.int .i64 t9)
     refine bodyPost_ret (results_st1 (p := 4) (x := 5) (ty := 35) rfl _ _ (w.heap.size + 1 + 1) _ _ (0, 0) _ rfl HP Tryz.underlying35 rfl (by kernel_rfl)) rfl ?_
     exact ⟨⟨A9, n9, c9, B9, q9, d9, X9, xn9, xc9, Y9, yn9, yc9, t9⟩, rfl, HPV, HPB, fun p hp hq => HN9.out p (fun b hb => hp b (by have := (HL5.out).size; omega)) ⟨hq, fun b e => hp b (by have := (HO5.out).rowLt b e; have := (HL4.out).size; omega)⟩, fun base hbase ha => (HA9.out base (by have := (HL5.out).size; omega) (ha.below HL5.out)).put HZ9.out _ _ _ _ _⟩
   · simp only [if_neg hm]
     have HE := Lib.hid hm
     rw [errV, if_neg hm] at HMV
     have hid_ : errV (moveE T.acs a b m) = eno (moveE T.acs a b m) := by rw [errV, if_neg hm]
     have HEV := Lib.hid hid_
     generalize moveE T.acs a b m = E at HMV HE HEV ⊢
     clear hm hid_ HWI
     go_enter Tryz.func102, Tryz.ntmps102
     go_upto_region 1 with fail
     generalize (((w.alloc (.cells #[.slice A n c, .slice B q d, .slice X xn xc, .slice Y yn yc, .int .i64 t] 35)).alloc (.cells (rqC k o a b m l u) 42)).alloc (.cells st0 35)) = w3 at HB1 HBR HB2 HBL ⊢
     have hsz3 : w.heap.size + 1 + 1 < w3.heap.size := HB2.out.lt
     have x0 := HB1.out.cell 0 rfl
     obtain ⟨r2, r3, r4⟩ := (show _ ∧ _ ∧ _ from ⟨HBR.out.cell 2 rfl, HBR.out.cell 3 rfl, HBR.out.cell 4 rfl⟩)
     go_upto_region 3 with (first | (go_at_call 140; refine (HAC.out _).mono ?_; rintro _ w3' ⟨rfl, rfl⟩))
     clear HAC
     go_upto_region 5 with (first | (go_at_call 141; refine (HMV.out _ HBL.out).mono ?_; rintro _ w4 ⟨v4, rfl, ho4, hb4⟩))
     have HB14 := Lib.hid (HB1.out.later hb4)
     have HB24 := Lib.hid (HB2.out.later hb4)
     have HL4 := Lib.hid (HBL.out.trans (hb4.mono HBL.out.size))
     clear x0 r2 r3 r4 ho4 hb4 HB1 HB2 HBR HBL HMV
     obtain ⟨x0, x1, x2, x3, x4⟩ := (show _ ∧ _ ∧ _ ∧ _ ∧ _ from ⟨HB14.out.cell 0 rfl, HB14.out.cell 1 rfl, HB14.out.cell 2 rfl, HB14.out.cell 3 rfl, HB14.out.cell 4 rfl⟩)
     obtain ⟨y0, y1, y2, y3, y4⟩ := (show _ ∧ _ ∧ _ ∧ _ ∧ _ from ⟨HB24.out.cell 0 rfl, HB24.out.cell 1 rfl, HB24.out.cell 2 rfl, HB24.out.cell 3 rfl, HB24.out.cell 4 rfl⟩)
     obtain ⟨f0, f1, f2, f3, f4⟩ := (show _ ∧ _ ∧ _ ∧ _ ∧ _ from ⟨HB24.out.loose 0, HB24.out.loose 1, HB24.out.loose 2, HB24.out.loose 3, HB24.out.loose 4⟩)
     go_wp2
     have HP := st_put HB24.out rfl (.slice A n c) (.slice B q d) (.slice X xn xc) (.slice Y yn yc) (.int .i64 t)
     have HPB := st_below HL4.out (show w.heap.size ≤ w.heap.size + 1 + 1 by omega) (.slice A n c) (.slice B q d) (.slice X xn xc) (.slice Y yn yc) (.int .i64 t)
     have HPV := sk_zero (HV.out.below HL4.out) HB24.out (.slice A n c) (.slice B q d) (.slice X xn xc) (.slice Y yn yc) (.int .i64 t)
     refine bodyPost_ret (results_st1 (p := 4) (x := 5) (ty := 35) rfl _ _ (w.heap.size + 1 + 1) _ _ (0, 0) _ rfl HP Tryz.underlying35 rfl (by kernel_rfl)) rfl ?_
     exact ⟨⟨A, n, c, B, q, d, X, xn, xc, Y, yn, yc, t⟩, by rw [HEV.out]; rfl, HPV, HPB, fun p _ hq => hq, fun base _ ha => (ha.below HL4.out).put HB24.out _ _ _ _ _⟩
 · simp only [if_neg hc]
   rw [decide_eq_false hc] at HAC
   clear hc HWI
   go_enter Tryz.func102, Tryz.ntmps102
   go_upto_region 1 with fail
   generalize (((w.alloc (.cells #[.slice A n c, .slice B q d, .slice X xn xc, .slice Y yn yc, .int .i64 t] 35)).alloc (.cells (rqC k o a b m l u) 42)).alloc (.cells st0 35)) = w3 at HB1 HBR HB2 HBL ⊢
   have hsz3 : w.heap.size + 1 + 1 < w3.heap.size := HB2.out.lt
   have x0 := HB1.out.cell 0 rfl
   obtain ⟨r2, r3, r4⟩ := (show _ ∧ _ ∧ _ from ⟨HBR.out.cell 2 rfl, HBR.out.cell 3 rfl, HBR.out.cell 4 rfl⟩)
   go_upto_region 2 with (first | (go_at_call 140; refine (HAC.out _).mono ?_; rintro _ w3' ⟨rfl, rfl⟩))
   clear x0 HAC r2 r3 r4
   obtain ⟨x0, x1, x2, x3, x4⟩ := (show _ ∧ _ ∧ _ ∧ _ ∧ _ from ⟨HB1.out.cell 0 rfl, HB1.out.cell 1 rfl, HB1.out.cell 2 rfl, HB1.out.cell 3 rfl, HB1.out.cell 4 rfl⟩)
   obtain ⟨y0, y1, y2, y3, y4⟩ := (show _ ∧ _ ∧ _ ∧ _ ∧ _ from ⟨HB2.out.cell 0 rfl, HB2.out.cell 1 rfl, HB2.out.cell 2 rfl, HB2.out.cell 3 rfl, HB2.out.cell 4 rfl⟩)
   obtain ⟨f0, f1, f2, f3, f4⟩ := (show _ ∧ _ ∧ _ ∧ _ ∧ _ from ⟨HB2.out.loose 0, HB2.out.loose 1, HB2.out.loose 2, HB2.out.loose 3, HB2.out.loose 4⟩)
   go_wp2
   have HP := st_put HB2.out rfl (.slice A n c) (.slice B q d) (.slice X xn xc) (.slice Y yn yc) (.int .i64 t)
   have HPB := st_below HBL.out (show w.heap.size ≤ w.heap.size + 1 + 1 by omega) (.slice A n c) (.slice B q d) (.slice X xn xc) (.slice Y yn yc) (.int .i64 t)
   have HPV := sk_zero (HV.out.below HBL.out) HB2.out (.slice A n c) (.slice B q d) (.slice X xn xc) (.slice Y yn yc) (.int .i64 t)
   refine bodyPost_ret (results_st1 (p := 4) (x := 5) (ty := 35) rfl _ _ (w.heap.size + 1 + 1) _ _ (0, 0) _ rfl HP Tryz.underlying35 rfl (by kernel_rfl)) rfl ?_
   exact ⟨⟨A, n, c, B, q, d, X, xn, xc, Y, yn, yc, t⟩, rfl, HPV, HPB, fun p _ hq => hq, fun base _ ha => (ha.below HBL.out).put HB2.out _ _ _ _ _⟩
theorem oundo_any (V : Sv) (T : St) (sl : List Sg) (kl : List Kn) (r : Rq) (w : World) (h : SkAt w V T sl kl) (hf : Fits T sl kl) :
  Calls Tryz.prog 143 #[V.val, r.val] w (SkE w (fun p => V.in_ p) (undS T r) sl kl (undE T r)) :=
 (oundo_own V T sl kl r w h hf).mono fun e w' ⟨V', k1, k2, k3, k4, _⟩ => ⟨V', k1, k2, k3, k4⟩
theorem osettle_any (V : Sv) (T : St) (sl : List Sg) (kl : List Kn) (r : Rq) (w : World) (h : SkAt w V T sl kl) (hf : Fits T sl kl) :
  Calls Tryz.prog 106 #[V.val, r.val] w (SkE w (fun p => V.in_ p) (setS T r) sl kl (setE T r)) :=
 (osettle_own V T sl kl r w h hf).mono fun e w' ⟨V', k1, k2, k3, k4, _⟩ => ⟨V', k1, k2, k3, k4⟩
theorem oreserve_any (V : Sv) (T : St) (sl : List Sg) (kl : List Kn) (r : Rq) (w : World) (h : SkAt w V T sl kl) (hf : Fits T sl kl) :
  Calls Tryz.prog 102 #[V.val, r.val] w (SkE w (fun p => V.in_ p) (rsvS T r) sl kl (rsvE T r)) :=
 (oreserve_own V T sl kl r w h hf).mono fun e w' ⟨V', k1, k2, k3, k4, _⟩ => ⟨V', k1, k2, k3, k4⟩
end Go.Proofs.YteifgmdaggiaaaaGreatDoor
