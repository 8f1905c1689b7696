/-
  A request comes: the engine's submit by its contract.
-/
import Derived.Test.YteifgmdaggiaaaaGreatDoorWEngStep
import Derived.Test.YteifgmdaggiaaaaGreatDoorWGrN
set_option linter.unusedSimpArgs false
namespace Go.Proofs.YteifgmdaggiaaaaGreatDoor
open Go Go.RowKit
set_option linter.unusedVariables false
theorem putL_len (kl : List Kn) (r : Rq) : (putL kl r).length ≤ kl.length + 1 := by
 unfold putL
 split
 · simp
 · simp
set_option maxRecDepth 100000 in
set_option maxHeartbeats 4000000 in
theorem esubmit_any (V : Sv) (T : St) (sl : List Sg) (kl : List Kn) (e : Ev) (w : World) (h : SkAt w V T sl kl) (hf : Fits T sl kl) (hkl : kl.length ≤ 900000) (hh : HasErr w) :
  Calls Tryz.prog 80 #[.agg (hapC V e)] w (EgB w w.heap.size V (subO ⟨T, sl, kl⟩ e.rq)) := by
 have HMA := Lib.hid (fun W => rmay_any e.rq W)
 have HLN := Lib.hid (fun W => long_any e.rq W)
 have HAS := Lib.hid (fun W (hb : Below w.heap.size w W) => kask_any V.Y V.yn V.yc kl e.rq W h.yn (h.kn.below hb) (by rw [← h.yn]; omega))
 have HPU := Lib.hid (fun W (hb : Below w.heap.size w W) => kput_any V.Y V.yn V.yc kl e.rq W h.yn (h.kn.below hb) (by rw [← h.yn]; omega) h.sy.nil)
 have HFA := Lib.hid (fun W (hb : Below w.heap.size w W) => efailed_any (kputE kl e.rq) W (hh.below hb))
 have hpl := putL_len kl e.rq
 have hf2 : Fits T sl (putL kl e.rq) := ⟨hf.rt, hf.q, hf.sl, by omega⟩
 have HWI := Lib.hid (fun W (hb : Below w.heap.size w W) (K : Option Addr) (kn kc : Nat) (hk : RdS known W K (putL kl e.rq)) (hkn : (putL kl e.rq).length = kn) (hks : Sl K kn kc) => ewith_any V T sl kl (putL kl e.rq) K kn kc W (h.below hb) hf hk hkn hks)
 have HBE := Lib.hid (fun W V' (b : Nat) (h' : SkAt W V' T sl (putL kl e.rq)) (ha : Apart W V' b sl) (hb : b ≤ W.heap.size) (hh' : HasErr W) => ebegin_any V' T sl (putL kl e.rq) e.rq b W h' ha hb hf2 (by omega) hh')
 have HDO := Lib.hid (fun W V' (h' : SkAt W V' T sl (putL kl e.rq)) (hh' : HasErr W) => sk_do V' T sl (putL kl e.rq) e.rq W h' hh' hf2.rt hf2.q hf2.sl hf2.kl)
 have HTD := Lib.hid (fun W V' (h' : SkAt W V' (opS T e.rq) sl (putL kl e.rq)) => etold_any V' (opS T e.rq) sl (putL kl e.rq) e.rq.key (opE T e.rq) (opI T e.rq) W h' (by omega))
 have HH := Lib.hid hh
 have HV_0 := Lib.hid h
 have HL_0 := Lib.hid (Below.refl w.heap.size w)
 obtain ⟨O, hO⟩ : ∃ O, subO ⟨T, sl, kl⟩ e.rq = O := ⟨_, rfl⟩
 rw [hO]
 unfold subO at hO
 dsimp only at hO
 obtain ⟨A0, n0, c0, B0, q0, d0, X0, xn0, xc0, Y0, yn0, yc0, t0⟩ := V
 have hsn : sl.length = xn0 := h.xn
 obtain ⟨what, r, key, ok⟩ := e
 unfold EgB hapC
 unfold AskTold at HAS
 unfold KeyRes at HPU
 unfold BoolRes at HMA HLN
 dsimp only at HMA HLN HAS HPU HFA HWI HBE HDO HTD hO hpl ⊢
 generalize putL kl r = K2 at HPU HWI HBE HDO HTD hO hpl hf2
 generalize kputE kl r = F2 at HPU HFA hO
 generalize askR kl r = R at HAS hO
 obtain ⟨R1, R2, R3⟩ := R
 generalize hob : begO ⟨T, sl, K2⟩ r = OB at HBE hO
 generalize opS T r = T6 at HDO HTD hO
 generalize opE T r = E6 at HDO HTD hO
 generalize opI T r = I6 at HDO HTD hO
 generalize toldL K2 r.key E6 I6 = K6 at HTD hO
 generalize hmy : decide r.may = my at HMA
 generalize hlo : decide (r.op = 2 ∧ 0 < r.legs) = lo at HLN
 have hO2 : (if my = true then (if R3 = true then (⟨⟨T, sl, kl⟩, R1, R2⟩ : Eo) else if lo = true ∧ 16 ≤ xn0 then ⟨⟨T, sl, kl⟩, 7, 0⟩ else if F2 = 0 then (if lo = true then OB else ⟨⟨T6, sl, K6⟩, E6, I6⟩) else ⟨⟨T, sl, kl⟩, F2, 0⟩) else ⟨⟨T, sl, kl⟩, 1, 0⟩) = O := by
  rw [← hO, ← hmy, ← hlo, hsn]
  simp only [decide_eq_true_iff]
  rfl
 have HO := Lib.hid hO2
 obtain ⟨rk, ro, ra, rb, rm, rl, ru⟩ := r
 unfold Rq.val at HMA HLN HAS HPU
 unfold Sv.val Sv.cells at HWI
 unfold EgB Sv.val Sv.cells Rq.val at HBE
 unfold Sv.val Sv.cells Rq.val at HDO
 unfold Sv.val Sv.cells at HTD
 dsimp only at HMA HLN HAS HPU HWI HBE HDO HTD ⊢
 clear h hf hh hO hO2 hob hmy hlo hf2
 go_enter Tryz.func80, Tryz.ntmps80
 go_upto_region 1 with fail
 have al := (Below.refl w.heap.size w).alloc (Nat.le_refl _) (.cells #[.slice A0 n0 c0, .slice B0 q0 d0, .slice X0 xn0 xc0, .slice Y0 yn0 yc0, .int .i64 t0, .int .i64 what, .int .i64 rk, .int .i64 ro, .int .i64 ra, .int .i64 rb, .int .i64 rm, .int .i64 rl, .int .i64 ru, .int .i64 key, .bool ok] 118)
 replace al := al.alloc (by simp; try omega) (.cells st0 35)
 replace al := al.alloc (by simp; try omega) (.cells rp0 46)
 have nb0 := ((Blk.new w 118 #[.slice A0 n0 c0, .slice B0 q0 d0, .slice X0 xn0 xc0, .slice Y0 yn0 yc0, .int .i64 t0, .int .i64 what, .int .i64 rk, .int .i64 ro, .int .i64 ra, .int .i64 rb, .int .i64 rm, .int .i64 rl, .int .i64 ru, .int .i64 key, .bool ok]).more (.cells st0 35)).more (.cells rp0 46)
 have nb1 := (Blk.new (w.alloc (.cells #[.slice A0 n0 c0, .slice B0 q0 d0, .slice X0 xn0 xc0, .slice Y0 yn0 yc0, .int .i64 t0, .int .i64 what, .int .i64 rk, .int .i64 ro, .int .i64 ra, .int .i64 rb, .int .i64 rm, .int .i64 rl, .int .i64 ru, .int .i64 key, .bool ok] 118)) 35 st0).more (.cells rp0 46)
 rw [alloc_size] at nb1
 have nb2 := Blk.new ((w.alloc (.cells #[.slice A0 n0 c0, .slice B0 q0 d0, .slice X0 xn0 xc0, .slice Y0 yn0 yc0, .int .i64 t0, .int .i64 what, .int .i64 rk, .int .i64 ro, .int .i64 ra, .int .i64 rb, .int .i64 rm, .int .i64 rl, .int .i64 ru, .int .i64 key, .bool ok] 118)).alloc (.cells st0 35)) 46 rp0
 rw [alloc_size, alloc_size] at nb2
 have HL_1 := Lib.hid (HL_0.out.trans (al.mono HL_0.out.size))
 have HV_1 := Lib.hid (HV_0.out.below al)
 clear al HL_0 HV_0
 have H_1 := Lib.hid (nb0)
 have Z_1 := Lib.hid (nb1)
 have P_1 := Lib.hid (nb2)
 clear nb0 nb1 nb2
 generalize ((w.alloc (.cells #[.slice A0 n0 c0, .slice B0 q0 d0, .slice X0 xn0 xc0, .slice Y0 yn0 yc0, .int .i64 t0, .int .i64 what, .int .i64 rk, .int .i64 ro, .int .i64 ra, .int .i64 rb, .int .i64 rm, .int .i64 rl, .int .i64 ru, .int .i64 key, .bool ok] 118)).alloc (.cells st0 35)).alloc (.cells rp0 46) = w1 at HL_1 HV_1 H_1 Z_1 P_1 ⊢
 have hz1 : w.heap.size + 1 + 1 < w1.heap.size := P_1.out.lt
 obtain ⟨u6, u7, u8, u9, u10, u11, u12⟩ := (show _ ∧ _ ∧ _ ∧ _ ∧ _ ∧ _ ∧ _ from ⟨H_1.out.cell 6 rfl, H_1.out.cell 7 rfl, H_1.out.cell 8 rfl, H_1.out.cell 9 rfl, H_1.out.cell 10 rfl, H_1.out.cell 11 rfl, H_1.out.cell 12 rfl⟩)
 go_upto_region 2 with fail
 clear u6 u7 u8 u9 u10 u11 u12
 have al := (Below.refl w1.heap.size w1).alloc (Nat.le_refl _) (.cells (rqC rk ro ra rb rm rl ru) 42)
 have nb0 := Blk.new w1 42 (rqC rk ro ra rb rm rl ru)
 have HL_2 := Lib.hid (HL_1.out.trans (al.mono HL_1.out.size))
 have HV_2 := Lib.hid (HV_1.out.below al)
 have H_2 := Lib.hid (H_1.out.later al)
 have Z_2 := Lib.hid (Z_1.out.later al)
 have P_2 := Lib.hid (P_1.out.later al)
 clear al HL_1 HV_1 H_1 Z_1 P_1
 have R_2 := Lib.hid (nb0)
 clear nb0
 generalize w1.alloc (.cells (rqC rk ro ra rb rm rl ru) 42) = w2 at HL_2 HV_2 H_2 Z_2 P_2 R_2 ⊢
 generalize w1.heap.size = gr at R_2 hz1 ⊢
 obtain ⟨r0, r1, r2, r3, r4, r5, r6⟩ := (show _ ∧ _ ∧ _ ∧ _ ∧ _ ∧ _ ∧ _ from ⟨R_2.out.cell 0 rfl, R_2.out.cell 1 rfl, R_2.out.cell 2 rfl, R_2.out.cell 3 rfl, R_2.out.cell 4 rfl, R_2.out.cell 5 rfl, R_2.out.cell 6 rfl⟩)
 cases my with
 | false =>
   go_upto_region 3 with (first | (go_at_call 35; refine (HMA.out w2).mono ?_; rintro _ w3 ⟨rfl, hb⟩; have HX := Lib.hid hb; clear hb r0 r1 r2 r3 r4 r5 r6))
   have HL_3 := Lib.hid (HL_2.out.trans (HX.out.mono HL_2.out.size))
   have HV_3 := Lib.hid (HV_2.out.below HX.out)
   have H_3 := Lib.hid (H_2.out.later HX.out)
   have Z_3 := Lib.hid (Z_2.out.later HX.out)
   have P_3 := Lib.hid (P_2.out.later HX.out)
   have R_3 := Lib.hid (R_2.out.later HX.out)
   clear HL_2 HV_2 H_2 Z_2 P_2 R_2
   clear HX
   obtain rfl : O = ⟨⟨T, sl, kl⟩, 1, 0⟩ := by rw [← HO.out]; rfl
   obtain ⟨x0, x1, x2, x3, x4⟩ := (show _ ∧ _ ∧ _ ∧ _ ∧ _ from ⟨H_3.out.cell 0 rfl, H_3.out.cell 1 rfl, H_3.out.cell 2 rfl, H_3.out.cell 3 rfl, H_3.out.cell 4 rfl⟩)
   obtain ⟨y0, y1, y2, y3, y4⟩ := (show _ ∧ _ ∧ _ ∧ _ ∧ _ from ⟨Z_3.out.cell 0 rfl, Z_3.out.cell 1 rfl, Z_3.out.cell 2 rfl, Z_3.out.cell 3 rfl, Z_3.out.cell 4 rfl⟩)
   obtain ⟨f0, f1, f2, f3, f4⟩ := (show _ ∧ _ ∧ _ ∧ _ ∧ _ from ⟨Z_3.out.loose 0, Z_3.out.loose 1, Z_3.out.loose 2, Z_3.out.loose 3, Z_3.out.loose 4⟩)
   obtain ⟨z0, z1⟩ := (show _ ∧ _ from ⟨P_3.out.cell 0 rfl, P_3.out.cell 1 rfl⟩)
   obtain ⟨e0, e1⟩ := (show _ ∧ _ from ⟨P_3.out.loose 0, P_3.out.loose 1⟩)
   go_wp2
   have HT2 := rp_other (st_put Z_3.out rfl (.slice A0 n0 c0) (.slice B0 q0 d0) (.slice X0 xn0 xc0) (.slice Y0 yn0 yc0) (.int .i64 t0)) (show w.heap.size + 1 + 1 ≠ w.heap.size + 1 by omega) (.int .i64 1) (.int .i64 0)
   have P6 := st_other P_3.out (show w.heap.size + 1 ≠ w.heap.size + 1 + 1 by omega) (.slice A0 n0 c0) (.slice B0 q0 d0) (.slice X0 xn0 xc0) (.slice Y0 yn0 yc0) (.int .i64 t0)
   have HT3 := rp_put P6 rfl (.int .i64 1) (.int .i64 0)
   have HTV := sk_rp (sk_zero HV_3.out Z_3.out (.slice A0 n0 c0) (.slice B0 q0 d0) (.slice X0 xn0 xc0) (.slice Y0 yn0 yc0) (.int .i64 t0)) P6 (.int .i64 1) (.int .i64 0)
   have HTB := rp_below (st_below HL_3.out (show w.heap.size ≤ w.heap.size + 1 by omega) (.slice A0 n0 c0) (.slice B0 q0 d0) (.slice X0 xn0 xc0) (.slice Y0 yn0 yc0) (.int .i64 t0)) (show w.heap.size ≤ w.heap.size + 1 + 1 by omega) (.int .i64 1) (.int .i64 0)
   refine bodyPost_ret (results_two (p := 2) (q := 3) (ty := 35) (tz := 46) rfl _ _ (w.heap.size + 1) (w.heap.size + 1 + 1) _ _ _ _ (0, 0) _ _ rfl HT2 Tryz.underlying35 rfl (by kernel_rfl) rfl HT3 Tryz.underlying46 rfl (by kernel_rfl)) rfl ?_
   exact ⟨⟨A0, n0, c0, B0, q0, d0, X0, xn0, xc0, Y0, yn0, yc0, t0⟩, rfl, HTV, HTB, Sv.new.refl _ _⟩
 | true =>
   go_upto_region 4 with (first | (go_at_call 35; refine (HMA.out w2).mono ?_; rintro _ w3 ⟨rfl, hb⟩; have HX := Lib.hid hb; clear hb r0 r1 r2 r3 r4 r5 r6))
   have HL_3 := Lib.hid (HL_2.out.trans (HX.out.mono HL_2.out.size))
   have HV_3 := Lib.hid (HV_2.out.below HX.out)
   have H_3 := Lib.hid (H_2.out.later HX.out)
   have Z_3 := Lib.hid (Z_2.out.later HX.out)
   have P_3 := Lib.hid (P_2.out.later HX.out)
   have R_3 := Lib.hid (R_2.out.later HX.out)
   clear HL_2 HV_2 H_2 Z_2 P_2 R_2
   clear HX HMA
   have x3 := H_3.out.cell 3 rfl
   obtain ⟨r0, r1, r2, r3, r4, r5, r6⟩ := (show _ ∧ _ ∧ _ ∧ _ ∧ _ ∧ _ ∧ _ from ⟨R_3.out.cell 0 rfl, R_3.out.cell 1 rfl, R_3.out.cell 2 rfl, R_3.out.cell 3 rfl, R_3.out.cell 4 rfl, R_3.out.cell 5 rfl, R_3.out.cell 6 rfl⟩)
   cases R3 with
   | true =>
     go_upto_region 6 with (first | (go_at_call 20; refine (HAS.out _ HL_3.out).mono ?_; rintro _ w4 ⟨rfl, hb⟩; have HX := Lib.hid hb; clear hb x3 r0 r1 r2 r3 r4 r5 r6))
     have HL_4 := Lib.hid (HL_3.out.trans (HX.out.mono HL_3.out.size))
     have HV_4 := Lib.hid (HV_3.out.below HX.out)
     have H_4 := Lib.hid (H_3.out.later HX.out)
     have Z_4 := Lib.hid (Z_3.out.later HX.out)
     have P_4 := Lib.hid (P_3.out.later HX.out)
     have R_4 := Lib.hid (R_3.out.later HX.out)
     clear HL_3 HV_3 H_3 Z_3 P_3 R_3
     clear HX
     have hz4 : w.heap.size + 1 + 1 < w4.heap.size := P_4.out.lt
     have al := (Below.refl w4.heap.size w4).alloc (Nat.le_refl _) (.cells #[.int .i64 R1, .int .i64 R2] 46)
     have nb0 := Blk.new w4 46 #[.int .i64 R1, .int .i64 R2]
     have HL_5 := Lib.hid (HL_4.out.trans (al.mono HL_4.out.size))
     have HV_5 := Lib.hid (HV_4.out.below al)
     have H_5 := Lib.hid (H_4.out.later al)
     have Z_5 := Lib.hid (Z_4.out.later al)
     have P_5 := Lib.hid (P_4.out.later al)
     have R_5 := Lib.hid (R_4.out.later al)
     clear al HL_4 HV_4 H_4 Z_4 P_4 R_4
     have Q_5 := Lib.hid (nb0)
     clear nb0
     generalize w4.alloc (.cells #[.int .i64 R1, .int .i64 R2] 46) = w5 at HL_5 HV_5 H_5 Z_5 P_5 R_5 Q_5 ⊢
     generalize w4.heap.size = gq at Q_5 hz4 ⊢
     obtain rfl : O = ⟨⟨T, sl, kl⟩, R1, R2⟩ := by rw [← HO.out]; rfl
     refine wp_region_held_drew (S := fun w' => On (fun k => k < w5.heap.size ∧ k ≠ w.heap.size + 1 ∧ k ≠ w.heap.size + 1 + 1) w5 w') (by kernel_rfl) (On.refl _ w5).drew (fun hHeld => ?_)
     refine tk 0 30 (v := ?_) ?_ ?_
     rotate_left
     · intro w' hSw
       go_simp
       (try with_reducible rfl)
     (try simp only [Act.put, sA, sB, sC])
     refine tk 1 31 (v := ?_) ?_ ?_
     rotate_left
     · intro w' hSw
       have hSw' := hSw
       (try dsimp only at hSw')
       obtain ⟨j0, j1, j2, j3, j4⟩ := (show _ ∧ _ ∧ _ ∧ _ ∧ _ from ⟨(Blk.on H_5.out hSw' ⟨H_5.out.lt, by omega, by omega⟩).cell 0 rfl, (Blk.on H_5.out hSw' ⟨H_5.out.lt, by omega, by omega⟩).cell 1 rfl, (Blk.on H_5.out hSw' ⟨H_5.out.lt, by omega, by omega⟩).cell 2 rfl, (Blk.on H_5.out hSw' ⟨H_5.out.lt, by omega, by omega⟩).cell 3 rfl, (Blk.on H_5.out hSw' ⟨H_5.out.lt, by omega, by omega⟩).cell 4 rfl⟩)
       go_simp
       (try with_reducible rfl)
     (try simp only [Act.put, sA, sB, sC])
     refine tk 2 32 (v := ?_) ?_ ?_
     rotate_left
     · intro w' hSw
       have hSw' := hSw
       (try dsimp only at hSw')
       obtain ⟨j0, j1⟩ := (show _ ∧ _ from ⟨(Blk.on Q_5.out hSw' ⟨Q_5.out.lt, by omega, by omega⟩).cell 0 rfl, (Blk.on Q_5.out hSw' ⟨Q_5.out.lt, by omega, by omega⟩).cell 1 rfl⟩)
       go_simp
       (try with_reducible rfl)
     (try simp only [Act.put, sA, sB, sC])
     have hbd : Below w5.heap.size w5 w5.drew := (Below.refl _ _).drew
     have HL_6 := Lib.hid (HL_5.out.trans (hbd.mono HL_5.out.size))
     have HV_6 := Lib.hid (HV_5.out.below hbd)
     have H_6 := Lib.hid (H_5.out.later hbd)
     have Z_6 := Lib.hid (Z_5.out.later hbd)
     have P_6 := Lib.hid (P_5.out.later hbd)
     have R_6 := Lib.hid (R_5.out.later hbd)
     have Q_6 := Lib.hid (Q_5.out.later hbd)
     clear HL_5 HV_5 H_5 Z_5 P_5 R_5 Q_5
     clear hbd
     have hzd : w5.drew.heap.size = w5.heap.size := rfl
     have HZD := Lib.hid hzd
     clear hzd
     generalize w5.drew = wd at hHeld HZD HL_6 HV_6 H_6 Z_6 P_6 R_6 Q_6 ⊢
     have hszd : wd.heap.size = w5.heap.size := HZD.out
     obtain ⟨y0, y1, y2, y3, y4⟩ := (show _ ∧ _ ∧ _ ∧ _ ∧ _ from ⟨Z_6.out.cell 0 rfl, Z_6.out.cell 1 rfl, Z_6.out.cell 2 rfl, Z_6.out.cell 3 rfl, Z_6.out.cell 4 rfl⟩)
     obtain ⟨f0, f1, f2, f3, f4⟩ := (show _ ∧ _ ∧ _ ∧ _ ∧ _ from ⟨Z_6.out.loose 0, Z_6.out.loose 1, Z_6.out.loose 2, Z_6.out.loose 3, Z_6.out.loose 4⟩)
     refine wpAnyH_ready (rs := [3]) (by kernel_rfl) (by simp) ?_
     refine AllReadyH.cons (i := 3) rfl (fun K0 hK => ?_) AllReadyH.nil
     go_simp
     refine hK.out _ (((((wd.setCell ⟨w.heap.size + 1, 0, none⟩ (.slice A0 n0 c0)).setCell ⟨w.heap.size + 1, 1, none⟩ (.slice B0 q0 d0)).setCell ⟨w.heap.size + 1, 2, none⟩ (.slice X0 xn0 xc0)).setCell ⟨w.heap.size + 1, 3, none⟩ (.slice Y0 yn0 yc0)).setCell ⟨w.heap.size + 1, 4, none⟩ (.int .i64 t0)) (est_on hHeld (fun e => e.2.1 rfl) (.slice A0 n0 c0) (.slice B0 q0 d0) (.slice X0 xn0 xc0) (.slice Y0 yn0 yc0) (.int .i64 t0)) (fun hHeld => ?_)
     clear hK K0
     (try simp only [Act.put, sA, sB, sC])
     clear y0 y1 y2 y3 y4 f0 f1 f2 f3 f4
     have P8 := st_other P_6.out (show w.heap.size + 1 ≠ w.heap.size + 1 + 1 by omega) (.slice A0 n0 c0) (.slice B0 q0 d0) (.slice X0 xn0 xc0) (.slice Y0 yn0 yc0) (.int .i64 t0)
     obtain ⟨z0, z1⟩ := (show _ ∧ _ from ⟨P8.cell 0 rfl, P8.cell 1 rfl⟩)
     obtain ⟨e0, e1⟩ := (show _ ∧ _ from ⟨P8.loose 0, P8.loose 1⟩)
     refine wpAnyH_ready (rs := [4]) (by kernel_rfl) (by simp) ?_
     refine AllReadyH.cons (i := 4) rfl (fun K0 hK => ?_) AllReadyH.nil
     go_simp
     refine hK.out _ (((((((wd.setCell ⟨w.heap.size + 1, 0, none⟩ (.slice A0 n0 c0)).setCell ⟨w.heap.size + 1, 1, none⟩ (.slice B0 q0 d0)).setCell ⟨w.heap.size + 1, 2, none⟩ (.slice X0 xn0 xc0)).setCell ⟨w.heap.size + 1, 3, none⟩ (.slice Y0 yn0 yc0)).setCell ⟨w.heap.size + 1, 4, none⟩ (.int .i64 t0)).setCell ⟨w.heap.size + 1 + 1, 0, none⟩ (.int .i64 R1)).setCell ⟨w.heap.size + 1 + 1, 1, none⟩ (.int .i64 R2)) (erp_on hHeld (fun e => e.2.2 rfl) _ _) (fun hHeld => ?_)
     clear hK K0
     (try simp only [Act.put, sA, sB, sC])
     refine wpAnyH_done (by kernel_rfl) ?_ _
     clear hHeld z0 z1 e0 e1
     go_wp2
     have HT2 := rp_other (st_put Z_6.out rfl (.slice A0 n0 c0) (.slice B0 q0 d0) (.slice X0 xn0 xc0) (.slice Y0 yn0 yc0) (.int .i64 t0)) (show w.heap.size + 1 + 1 ≠ w.heap.size + 1 by omega) (.int .i64 R1) (.int .i64 R2)
     have P6 := st_other P_6.out (show w.heap.size + 1 ≠ w.heap.size + 1 + 1 by omega) (.slice A0 n0 c0) (.slice B0 q0 d0) (.slice X0 xn0 xc0) (.slice Y0 yn0 yc0) (.int .i64 t0)
     have HT3 := rp_put P6 rfl (.int .i64 R1) (.int .i64 R2)
     have HTV := sk_rp (sk_zero HV_6.out Z_6.out (.slice A0 n0 c0) (.slice B0 q0 d0) (.slice X0 xn0 xc0) (.slice Y0 yn0 yc0) (.int .i64 t0)) P6 (.int .i64 R1) (.int .i64 R2)
     have HTB := rp_below (st_below HL_6.out (show w.heap.size ≤ w.heap.size + 1 by omega) (.slice A0 n0 c0) (.slice B0 q0 d0) (.slice X0 xn0 xc0) (.slice Y0 yn0 yc0) (.int .i64 t0)) (show w.heap.size ≤ w.heap.size + 1 + 1 by omega) (.int .i64 R1) (.int .i64 R2)
     refine bodyPost_ret (results_two (p := 2) (q := 3) (ty := 35) (tz := 46) rfl _ _ (w.heap.size + 1) (w.heap.size + 1 + 1) _ _ _ _ (0, 0) _ _ rfl HT2 Tryz.underlying35 rfl (by kernel_rfl) rfl HT3 Tryz.underlying46 rfl (by kernel_rfl)) rfl ?_
     exact ⟨⟨A0, n0, c0, B0, q0, d0, X0, xn0, xc0, Y0, yn0, yc0, t0⟩, rfl, HTV, HTB, Sv.new.refl _ _⟩
   | false =>
     go_upto_region 7 with (first | (go_at_call 20; refine (HAS.out _ HL_3.out).mono ?_; rintro _ w4 ⟨rfl, hb⟩; have HX := Lib.hid hb; clear hb x3 r0 r1 r2 r3 r4 r5 r6))
     have HL_4 := Lib.hid (HL_3.out.trans (HX.out.mono HL_3.out.size))
     have HV_4 := Lib.hid (HV_3.out.below HX.out)
     have H_4 := Lib.hid (H_3.out.later HX.out)
     have Z_4 := Lib.hid (Z_3.out.later HX.out)
     have P_4 := Lib.hid (P_3.out.later HX.out)
     have R_4 := Lib.hid (R_3.out.later HX.out)
     clear HL_3 HV_3 H_3 Z_3 P_3 R_3
     clear HX
     have hz4 : w.heap.size + 1 + 1 < w4.heap.size := P_4.out.lt
     have al := (Below.refl w4.heap.size w4).alloc (Nat.le_refl _) (.cells #[.int .i64 R1, .int .i64 R2] 46)
     have nb0 := Blk.new w4 46 #[.int .i64 R1, .int .i64 R2]
     have HL_5 := Lib.hid (HL_4.out.trans (al.mono HL_4.out.size))
     have HV_5 := Lib.hid (HV_4.out.below al)
     have H_5 := Lib.hid (H_4.out.later al)
     have Z_5 := Lib.hid (Z_4.out.later al)
     have P_5 := Lib.hid (P_4.out.later al)
     have R_5 := Lib.hid (R_4.out.later al)
     clear al HL_4 HV_4 H_4 Z_4 P_4 R_4
     have Q_5 := Lib.hid (nb0)
     clear nb0
     generalize w4.alloc (.cells #[.int .i64 R1, .int .i64 R2] 46) = w5 at HL_5 HV_5 H_5 Z_5 P_5 R_5 Q_5 ⊢
     clear Q_5
     obtain ⟨r0, r1, r2, r3, r4, r5, r6⟩ := (show _ ∧ _ ∧ _ ∧ _ ∧ _ ∧ _ ∧ _ from ⟨R_5.out.cell 0 rfl, R_5.out.cell 1 rfl, R_5.out.cell 2 rfl, R_5.out.cell 3 rfl, R_5.out.cell 4 rfl, R_5.out.cell 5 rfl, R_5.out.cell 6 rfl⟩)
     have x2 := H_5.out.cell 2 rfl
     have hz5 : w.heap.size + 1 + 1 < w5.heap.size := P_5.out.lt
     cases lo with
     | true =>
       by_cases h16 : 16 ≤ xn0
       · have q16 := decide_eq_true (show (16 : Int) ≤ (xn0 : Int) by omega)
         go_upto_region 8 with (first
           | (go_at_call 74; refine (HLN.out w5).mono ?_; rintro _ w6 ⟨rfl, hb⟩; have HX := Lib.hid hb
              have x2 := H_5.out.later hb |>.cell 2 rfl
              clear hb x2 r0 r1 r2 r3 r4 r5 r6
              have x2 := (H_5.out.later HX.out).cell 2 rfl))
         clear x2
         have HL_6 := Lib.hid (HL_5.out.trans (HX.out.mono HL_5.out.size))
         have HV_6 := Lib.hid (HV_5.out.below HX.out)
         have H_6 := Lib.hid (H_5.out.later HX.out)
         have Z_6 := Lib.hid (Z_5.out.later HX.out)
         have P_6 := Lib.hid (P_5.out.later HX.out)
         have R_6 := Lib.hid (R_5.out.later HX.out)
         clear HL_5 HV_5 H_5 Z_5 P_5 R_5
         clear HX q16
         obtain rfl : O = ⟨⟨T, sl, kl⟩, 7, 0⟩ := by rw [← HO.out]; simp [h16]
         obtain ⟨x0, x1, x2, x3, x4⟩ := (show _ ∧ _ ∧ _ ∧ _ ∧ _ from ⟨H_6.out.cell 0 rfl, H_6.out.cell 1 rfl, H_6.out.cell 2 rfl, H_6.out.cell 3 rfl, H_6.out.cell 4 rfl⟩)
         obtain ⟨y0, y1, y2, y3, y4⟩ := (show _ ∧ _ ∧ _ ∧ _ ∧ _ from ⟨Z_6.out.cell 0 rfl, Z_6.out.cell 1 rfl, Z_6.out.cell 2 rfl, Z_6.out.cell 3 rfl, Z_6.out.cell 4 rfl⟩)
         obtain ⟨f0, f1, f2, f3, f4⟩ := (show _ ∧ _ ∧ _ ∧ _ ∧ _ from ⟨Z_6.out.loose 0, Z_6.out.loose 1, Z_6.out.loose 2, Z_6.out.loose 3, Z_6.out.loose 4⟩)
         obtain ⟨z0, z1⟩ := (show _ ∧ _ from ⟨P_6.out.cell 0 rfl, P_6.out.cell 1 rfl⟩)
         obtain ⟨e0, e1⟩ := (show _ ∧ _ from ⟨P_6.out.loose 0, P_6.out.loose 1⟩)
         go_wp2
         have HT2 := rp_other (st_put Z_6.out rfl (.slice A0 n0 c0) (.slice B0 q0 d0) (.slice X0 xn0 xc0) (.slice Y0 yn0 yc0) (.int .i64 t0)) (show w.heap.size + 1 + 1 ≠ w.heap.size + 1 by omega) (.int .i64 7) (.int .i64 0)
         have P6 := st_other P_6.out (show w.heap.size + 1 ≠ w.heap.size + 1 + 1 by omega) (.slice A0 n0 c0) (.slice B0 q0 d0) (.slice X0 xn0 xc0) (.slice Y0 yn0 yc0) (.int .i64 t0)
         have HT3 := rp_put P6 rfl (.int .i64 7) (.int .i64 0)
         have HTV := sk_rp (sk_zero HV_6.out Z_6.out (.slice A0 n0 c0) (.slice B0 q0 d0) (.slice X0 xn0 xc0) (.slice Y0 yn0 yc0) (.int .i64 t0)) P6 (.int .i64 7) (.int .i64 0)
         have HTB := rp_below (st_below HL_6.out (show w.heap.size ≤ w.heap.size + 1 by omega) (.slice A0 n0 c0) (.slice B0 q0 d0) (.slice X0 xn0 xc0) (.slice Y0 yn0 yc0) (.int .i64 t0)) (show w.heap.size ≤ w.heap.size + 1 + 1 by omega) (.int .i64 7) (.int .i64 0)
         refine bodyPost_ret (results_two (p := 2) (q := 3) (ty := 35) (tz := 46) rfl _ _ (w.heap.size + 1) (w.heap.size + 1 + 1) _ _ _ _ (0, 0) _ _ rfl HT2 Tryz.underlying35 rfl (by kernel_rfl) rfl HT3 Tryz.underlying46 rfl (by kernel_rfl)) rfl ?_
         exact ⟨⟨A0, n0, c0, B0, q0, d0, X0, xn0, xc0, Y0, yn0, yc0, t0⟩, rfl, HTV, HTB, Sv.new.refl _ _⟩
       · have q16 := decide_eq_false (show ¬ (16 : Int) ≤ (xn0 : Int) by omega)
         go_upto_region 9 with (first
           | (go_at_call 74; refine (HLN.out w5).mono ?_; rintro _ w6 ⟨rfl, hb⟩; have HX := Lib.hid hb
              have x2 := H_5.out.later hb |>.cell 2 rfl
              clear hb x2 r0 r1 r2 r3 r4 r5 r6
              have x2 := (H_5.out.later HX.out).cell 2 rfl))
         clear x2
         have HL_6 := Lib.hid (HL_5.out.trans (HX.out.mono HL_5.out.size))
         have HV_6 := Lib.hid (HV_5.out.below HX.out)
         have H_6 := Lib.hid (H_5.out.later HX.out)
         have Z_6 := Lib.hid (Z_5.out.later HX.out)
         have P_6 := Lib.hid (P_5.out.later HX.out)
         have R_6 := Lib.hid (R_5.out.later HX.out)
         clear HL_5 HV_5 H_5 Z_5 P_5 R_5
         clear HX q16
         have x3 := H_6.out.cell 3 rfl
         obtain ⟨r0, r1, r2, r3, r4, r5, r6⟩ := (show _ ∧ _ ∧ _ ∧ _ ∧ _ ∧ _ ∧ _ from ⟨R_6.out.cell 0 rfl, R_6.out.cell 1 rfl, R_6.out.cell 2 rfl, R_6.out.cell 3 rfl, R_6.out.cell 4 rfl, R_6.out.cell 5 rfl, R_6.out.cell 6 rfl⟩)
         have hz6 : w.heap.size + 1 + 1 < w6.heap.size := P_6.out.lt
         by_cases hp2 : F2 = 0
         · subst hp2
           rw [show errV 0 = .nilIface from rfl] at HPU
           obtain rfl : O = OB := by rw [← HO.out]; simp [h16]
           go_upto_region 12 with (first
             | (go_at_call 36; refine (HPU.out _ HL_6.out).mono ?_; rintro _ w7 ⟨vk, rfl, hok, hb⟩
                have HX := Lib.hid hb
                have HOK := Lib.hid hok
                clear hb hok x3 r0 r1 r2 r3 r4 r5 r6))
           have HL_7 := Lib.hid (HL_6.out.trans (HX.out.mono HL_6.out.size))
           have HV_7 := Lib.hid (HV_6.out.below HX.out)
           have H_7 := Lib.hid (H_6.out.later HX.out)
           have Z_7 := Lib.hid (Z_6.out.later HX.out)
           have P_7 := Lib.hid (P_6.out.later HX.out)
           have R_7 := Lib.hid (R_6.out.later HX.out)
           clear HL_6 HV_6 H_6 Z_6 P_6 R_6
           clear HX
           obtain ⟨K, kc, rfl, hk1, hk2, hk3, hk4⟩ := HOK.out.form
           obtain ⟨kn, hkn⟩ : ∃ m, K2.length = m := ⟨_, rfl⟩
           rw [hkn] at hk2 hk4 HOK ⊢
           have HKF := Lib.hid (fun a (e : K = some a) => show w6.heap.size ≤ a.block from HOK.out.rowLt a.block (by rw [e]; rfl))
           have HK1 := Lib.hid hk1
           have HKN := Lib.hid hkn
           have HKS := Lib.hid (show Sl K kn kc from ⟨hk4, hk2, hk3⟩)
           have hz7 : w.heap.size + 1 + 1 < w7.heap.size := P_7.out.lt
           have hs67 := HL_7.out.size
           clear hk1 hk2 hk3 hk4 hkn
           have hkb : w.heap.size ≤ w6.heap.size := by omega
           have D := Lib.hid (HWI.out w7 HL_7.out K kn kc HK1.out HKN.out HKS.out)
           clear HWI
           obtain ⟨x0, x1, x2, x3, x4⟩ := (show _ ∧ _ ∧ _ ∧ _ ∧ _ from ⟨H_7.out.cell 0 rfl, H_7.out.cell 1 rfl, H_7.out.cell 2 rfl, H_7.out.cell 3 rfl, H_7.out.cell 4 rfl⟩)
           go_upto_region 13 with (first
             | (go_at_call 108; refine D.out.mono ?_; rintro _ w8 ⟨V5, rfl, hv, hb, hin0, hap0⟩
                obtain ⟨A5, n5, c5, B5, q5, d5, X5, xn5, xc5, Y5, yn5, yc5, t5⟩ := V5
                dsimp only at hv hin0 hap0 ⊢
                have HVa := Lib.hid hv
                have HXa := Lib.hid hb
                have hle78 := hb.size
                have HAa := Lib.hid hap0
                have HIN := Lib.hid (fun (p : Nat → Prop) (hp : ∀ b, w.heap.size ≤ b → p b) => hin0 p (fun b hb => hp b (by omega)) (fun a e => hp _ (by have := HKF.out a e; omega)))
                clear hv hb hin0 hap0 x0 x1 x2 x3 x4))
           clear D HK1 HKF HKS HKN HOK
           have HL_8 := Lib.hid (HL_7.out.trans (HXa.out.mono HL_7.out.size))
           have HV_8 := Lib.hid (HV_7.out.below HXa.out)
           have H_8 := Lib.hid (H_7.out.later HXa.out)
           have Z_8 := Lib.hid (Z_7.out.later HXa.out)
           have P_8 := Lib.hid (P_7.out.later HXa.out)
           have R_8 := Lib.hid (R_7.out.later HXa.out)
           clear HL_7 HV_7 H_7 Z_7 P_7 R_7
           have HW_8 := Lib.hid (HVa.out)
           have AW_8 := Lib.hid (HAa.out)
           clear HXa HVa HAa
           have hs8 := HL_8.out.size
           have al := (Below.refl w8.heap.size w8).alloc (Nat.le_refl _) (.cells #[.slice A5 n5 c5, .slice B5 q5 d5, .slice X5 xn5 xc5, .slice Y5 yn5 yc5, .int .i64 t5] 35)
           have nb0 := Blk.new w8 35 #[.slice A5 n5 c5, .slice B5 q5 d5, .slice X5 xn5 xc5, .slice Y5 yn5 yc5, .int .i64 t5]
           have HL_9 := Lib.hid (HL_8.out.trans (al.mono HL_8.out.size))
           have HV_9 := Lib.hid (HV_8.out.below al)
           have H_9 := Lib.hid (H_8.out.later al)
           have Z_9 := Lib.hid (Z_8.out.later al)
           have P_9 := Lib.hid (P_8.out.later al)
           have R_9 := Lib.hid (R_8.out.later al)
           have HW_9 := Lib.hid (HW_8.out.below al)
           have AW_9 := Lib.hid (AW_8.out.below al)
           clear al HL_8 HV_8 H_8 Z_8 P_8 R_8 HW_8 AW_8
           have U_9 := Lib.hid (nb0)
           clear nb0
           generalize w8.alloc (.cells #[.slice A5 n5 c5, .slice B5 q5 d5, .slice X5 xn5 xc5, .slice Y5 yn5 yc5, .int .i64 t5] 35) = w9 at HL_9 HV_9 H_9 Z_9 P_9 R_9 HW_9 AW_9 U_9 ⊢
           generalize w8.heap.size = gu at U_9 hle78 hs8 ⊢
           have hgu9 : gu < w9.heap.size := U_9.out.lt
           obtain ⟨r0, r1, r2, r3, r4, r5, r6⟩ := (show _ ∧ _ ∧ _ ∧ _ ∧ _ ∧ _ ∧ _ from ⟨R_9.out.cell 0 rfl, R_9.out.cell 1 rfl, R_9.out.cell 2 rfl, R_9.out.cell 3 rfl, R_9.out.cell 4 rfl, R_9.out.cell 5 rfl, R_9.out.cell 6 rfl⟩)
           go_upto_region 14 with (first | (go_at_call 74; refine (HLN.out w9).mono ?_; rintro _ w10 ⟨rfl, hb⟩; have HX := Lib.hid hb; clear hb r0 r1 r2 r3 r4 r5 r6))
           have hle10 := HX.out.size
           have HL_10 := Lib.hid (HL_9.out.trans (HX.out.mono HL_9.out.size))
           have HV_10 := Lib.hid (HV_9.out.below HX.out)
           have H_10 := Lib.hid (H_9.out.later HX.out)
           have Z_10 := Lib.hid (Z_9.out.later HX.out)
           have P_10 := Lib.hid (P_9.out.later HX.out)
           have R_10 := Lib.hid (R_9.out.later HX.out)
           have HW_10 := Lib.hid (HW_9.out.below HX.out)
           have AW_10 := Lib.hid (AW_9.out.below HX.out)
           have U_10 := Lib.hid (U_9.out.later HX.out)
           clear HL_9 HV_9 H_9 Z_9 P_9 R_9 HW_9 AW_9 U_9
           clear HX
           have D := Lib.hid (HBE.out w10 ⟨A5, n5, c5, B5, q5, d5, X5, xn5, xc5, Y5, yn5, yc5, t5⟩ w7.heap.size HW_10.out AW_10.out (by omega) (HH.out.below HL_10.out))
           dsimp only at D
           clear HBE
           obtain ⟨x0, x1, x2, x3, x4⟩ := (show _ ∧ _ ∧ _ ∧ _ ∧ _ from ⟨U_10.out.cell 0 rfl, U_10.out.cell 1 rfl, U_10.out.cell 2 rfl, U_10.out.cell 3 rfl, U_10.out.cell 4 rfl⟩)
           obtain ⟨r0, r1, r2, r3, r4, r5, r6⟩ := (show _ ∧ _ ∧ _ ∧ _ ∧ _ ∧ _ ∧ _ from ⟨R_10.out.cell 0 rfl, R_10.out.cell 1 rfl, R_10.out.cell 2 rfl, R_10.out.cell 3 rfl, R_10.out.cell 4 rfl, R_10.out.cell 5 rfl, R_10.out.cell 6 rfl⟩)
           go_wp2_with (first
             | (go_at_call 109; refine D.out.mono ?_; rintro _ w11 ⟨V7, rfl, hv, hb, hnw⟩
                obtain ⟨A7, n7, c7, B7, q7, d7, X7, xn7, xc7, Y7, yn7, yc7, t7⟩ := V7
                dsimp only at hv hnw ⊢
                have Z7 := Lib.hid (show Blk w11 (w.heap.size + 1) 35 st0 from (hb.block _ (by omega)).trans Z_10.out)
                have P7 := Lib.hid (show Blk w11 (w.heap.size + 1 + 1) 46 rp0 from (hb.block _ (by omega)).trans P_10.out)
                have L7 := Lib.hid (HL_10.out.trans (hb.mono (by omega)))
                have HV7 := Lib.hid hv
                have HNW := Lib.hid hnw
                clear hv hb hnw x0 x1 x2 x3 x4 r0 r1 r2 r3 r4 r5 r6
                obtain ⟨y0, y1, y2, y3, y4⟩ := (show _ ∧ _ ∧ _ ∧ _ ∧ _ from ⟨Z7.out.cell 0 rfl, Z7.out.cell 1 rfl, Z7.out.cell 2 rfl, Z7.out.cell 3 rfl, Z7.out.cell 4 rfl⟩)
                obtain ⟨f0, f1, f2, f3, f4⟩ := (show _ ∧ _ ∧ _ ∧ _ ∧ _ from ⟨Z7.out.loose 0, Z7.out.loose 1, Z7.out.loose 2, Z7.out.loose 3, Z7.out.loose 4⟩)
                obtain ⟨z0, z1⟩ := (show _ ∧ _ from ⟨P7.out.cell 0 rfl, P7.out.cell 1 rfl⟩)
                obtain ⟨e0, e1⟩ := (show _ ∧ _ from ⟨P7.out.loose 0, P7.out.loose 1⟩)))
           have HT2 := rp_other (st_put Z7.out rfl (.slice A7 n7 c7) (.slice B7 q7 d7) (.slice X7 xn7 xc7) (.slice Y7 yn7 yc7) (.int .i64 t7)) (show w.heap.size + 1 + 1 ≠ w.heap.size + 1 by omega) (.int .i64 O.E) (.int .i64 O.I)
           have P6 := st_other P7.out (show w.heap.size + 1 ≠ w.heap.size + 1 + 1 by omega) (.slice A7 n7 c7) (.slice B7 q7 d7) (.slice X7 xn7 xc7) (.slice Y7 yn7 yc7) (.int .i64 t7)
           have HT3 := rp_put P6 rfl (.int .i64 O.E) (.int .i64 O.I)
           have HTV := sk_rp (sk_zero HV7.out Z7.out (.slice A7 n7 c7) (.slice B7 q7 d7) (.slice X7 xn7 xc7) (.slice Y7 yn7 yc7) (.int .i64 t7)) P6 (.int .i64 O.E) (.int .i64 O.I)
           have HTB := rp_below (st_below L7.out (show w.heap.size ≤ w.heap.size + 1 by omega) (.slice A7 n7 c7) (.slice B7 q7 d7) (.slice X7 xn7 xc7) (.slice Y7 yn7 yc7) (.int .i64 t7)) (show w.heap.size ≤ w.heap.size + 1 + 1 by omega) (.int .i64 O.E) (.int .i64 O.I)
           refine bodyPost_ret (results_two (p := 2) (q := 3) (ty := 35) (tz := 46) rfl _ _ (w.heap.size + 1) (w.heap.size + 1 + 1) _ _ _ _ (0, 0) _ _ rfl HT2 Tryz.underlying35 rfl (by kernel_rfl) rfl HT3 Tryz.underlying46 rfl (by kernel_rfl)) rfl ?_
           exact ⟨⟨A7, n7, c7, B7, q7, d7, X7, xn7, xc7, Y7, yn7, yc7, t7⟩, rfl, HTV, HTB, fun p hp hq => HNW.out p (fun b hb => hp b (by omega)) (HIN.out p hp)⟩
         · have hev : errV F2 = eno F2 := by rw [errV, if_neg hp2]
           rw [hev] at HPU HFA
           obtain rfl : O = ⟨⟨T, sl, kl⟩, F2, 0⟩ := by rw [← HO.out]; simp [hp2, h16]
           clear hp2 hev
           go_upto_region 11 with (first
             | (go_at_call 36; refine (HPU.out _ HL_6.out).mono ?_; rintro _ w7 ⟨vk, rfl, hok, hb⟩
                have HX := Lib.hid hb
                have HOK := Lib.hid hok
                clear hb hok x3 r0 r1 r2 r3 r4 r5 r6))
           have HL_7 := Lib.hid (HL_6.out.trans (HX.out.mono HL_6.out.size))
           have HV_7 := Lib.hid (HV_6.out.below HX.out)
           have H_7 := Lib.hid (H_6.out.later HX.out)
           have Z_7 := Lib.hid (Z_6.out.later HX.out)
           have P_7 := Lib.hid (P_6.out.later HX.out)
           have R_7 := Lib.hid (R_6.out.later HX.out)
           clear HL_6 HV_6 H_6 Z_6 P_6 R_6
           clear HX HOK
           have hz7 : w.heap.size + 1 + 1 < w7.heap.size := P_7.out.lt
           refine wp_region_held_drew (S := fun w' => On (fun k => k < w7.heap.size ∧ k ≠ w.heap.size + 1 ∧ k ≠ w.heap.size + 1 + 1) w7 w') (by kernel_rfl) (On.refl _ w7).drew (fun hHeld => ?_)
           refine tk 0 55 (v := ?_) ?_ ?_
           rotate_left
           · intro w' hSw
             go_simp
             (try with_reducible rfl)
           (try simp only [Act.put, sA, sB, sC])
           refine tk 1 56 (v := ?_) ?_ ?_
           rotate_left
           · intro w' hSw
             have hSw' := hSw
             (try dsimp only at hSw')
             obtain ⟨j0, j1, j2, j3, j4⟩ := (show _ ∧ _ ∧ _ ∧ _ ∧ _ from ⟨(Blk.on H_7.out hSw' ⟨H_7.out.lt, by omega, by omega⟩).cell 0 rfl, (Blk.on H_7.out hSw' ⟨H_7.out.lt, by omega, by omega⟩).cell 1 rfl, (Blk.on H_7.out hSw' ⟨H_7.out.lt, by omega, by omega⟩).cell 2 rfl, (Blk.on H_7.out hSw' ⟨H_7.out.lt, by omega, by omega⟩).cell 3 rfl, (Blk.on H_7.out hSw' ⟨H_7.out.lt, by omega, by omega⟩).cell 4 rfl⟩)
             go_simp
             (try with_reducible rfl)
           (try simp only [Act.put, sA, sB, sC])
           refine tk 2 57 (v := ?_) ?_ ?_
           rotate_left
           · intro w' hSw
             go_simp
             (try with_reducible rfl)
           (try simp only [Act.put, sA, sB, sC])
           have hbd : Below w7.heap.size w7 w7.drew := (Below.refl _ _).drew
           have HL_8 := Lib.hid (HL_7.out.trans (hbd.mono HL_7.out.size))
           have HV_8 := Lib.hid (HV_7.out.below hbd)
           have H_8 := Lib.hid (H_7.out.later hbd)
           have Z_8 := Lib.hid (Z_7.out.later hbd)
           have P_8 := Lib.hid (P_7.out.later hbd)
           have R_8 := Lib.hid (R_7.out.later hbd)
           clear HL_7 HV_7 H_7 Z_7 P_7 R_7
           clear hbd
           have hzd : w7.drew.heap.size = w7.heap.size := rfl
           have HZD := Lib.hid hzd
           clear hzd
           generalize w7.drew = wd at hHeld HZD HL_8 HV_8 H_8 Z_8 P_8 R_8 ⊢
           have hszd : wd.heap.size = w7.heap.size := HZD.out
           refine wpAnyH_ready (rs := [3]) (by kernel_rfl) (by simp) ?_
           refine AllReadyH.cons (i := 3) rfl (fun K0 hK => ?_) AllReadyH.nil
           go_simp
           go_at_call 107
           refine (HFA.out wd HL_8.out).mono ?_
           rintro _ w8 ⟨rfl, hb⟩
           have hH8 : On (fun k => k < w7.heap.size ∧ k ≠ w.heap.size + 1 ∧ k ≠ w.heap.size + 1 + 1) w7 w8 := hHeld.trans (On.of hb (fun k hk => by have := hk.1; omega))
           have HL_9 := Lib.hid (HL_8.out.trans (hb.mono HL_8.out.size))
           have HV_9 := Lib.hid (HV_8.out.below hb)
           have H_9 := Lib.hid (H_8.out.later hb)
           have Z_9 := Lib.hid (Z_8.out.later hb)
           have P_9 := Lib.hid (P_8.out.later hb)
           have R_9 := Lib.hid (R_8.out.later hb)
           clear HL_8 HV_8 H_8 Z_8 P_8 R_8
           clear hb
           refine hK.out _ _ hH8 (fun hHeld => ?_)
           clear hK K0
           (try simp only [Act.put, sA, sB, sC])
           obtain ⟨y0, y1, y2, y3, y4⟩ := (show _ ∧ _ ∧ _ ∧ _ ∧ _ from ⟨Z_9.out.cell 0 rfl, Z_9.out.cell 1 rfl, Z_9.out.cell 2 rfl, Z_9.out.cell 3 rfl, Z_9.out.cell 4 rfl⟩)
           obtain ⟨f0, f1, f2, f3, f4⟩ := (show _ ∧ _ ∧ _ ∧ _ ∧ _ from ⟨Z_9.out.loose 0, Z_9.out.loose 1, Z_9.out.loose 2, Z_9.out.loose 3, Z_9.out.loose 4⟩)
           refine wpAnyH_ready (rs := [4]) (by kernel_rfl) (by simp) ?_
           refine AllReadyH.cons (i := 4) rfl (fun K0 hK => ?_) AllReadyH.nil
           go_simp
           refine hK.out _ (((((w8.setCell ⟨w.heap.size + 1, 0, none⟩ (.slice A0 n0 c0)).setCell ⟨w.heap.size + 1, 1, none⟩ (.slice B0 q0 d0)).setCell ⟨w.heap.size + 1, 2, none⟩ (.slice X0 xn0 xc0)).setCell ⟨w.heap.size + 1, 3, none⟩ (.slice Y0 yn0 yc0)).setCell ⟨w.heap.size + 1, 4, none⟩ (.int .i64 t0)) (est_on hHeld (fun e => e.2.1 rfl) (.slice A0 n0 c0) (.slice B0 q0 d0) (.slice X0 xn0 xc0) (.slice Y0 yn0 yc0) (.int .i64 t0)) (fun hHeld => ?_)
           clear hK K0
           (try simp only [Act.put, sA, sB, sC])
           clear y0 y1 y2 y3 y4 f0 f1 f2 f3 f4
           have P8 := st_other P_9.out (show w.heap.size + 1 ≠ w.heap.size + 1 + 1 by omega) (.slice A0 n0 c0) (.slice B0 q0 d0) (.slice X0 xn0 xc0) (.slice Y0 yn0 yc0) (.int .i64 t0)
           obtain ⟨z0, z1⟩ := (show _ ∧ _ from ⟨P8.cell 0 rfl, P8.cell 1 rfl⟩)
           obtain ⟨e0, e1⟩ := (show _ ∧ _ from ⟨P8.loose 0, P8.loose 1⟩)
           refine wpAnyH_ready (rs := [5]) (by kernel_rfl) (by simp) ?_
           refine AllReadyH.cons (i := 5) rfl (fun K0 hK => ?_) AllReadyH.nil
           go_simp
           refine hK.out _ (((((((w8.setCell ⟨w.heap.size + 1, 0, none⟩ (.slice A0 n0 c0)).setCell ⟨w.heap.size + 1, 1, none⟩ (.slice B0 q0 d0)).setCell ⟨w.heap.size + 1, 2, none⟩ (.slice X0 xn0 xc0)).setCell ⟨w.heap.size + 1, 3, none⟩ (.slice Y0 yn0 yc0)).setCell ⟨w.heap.size + 1, 4, none⟩ (.int .i64 t0)).setCell ⟨w.heap.size + 1 + 1, 0, none⟩ (.int .i64 F2)).setCell ⟨w.heap.size + 1 + 1, 1, none⟩ (.int .i64 0)) (erp_on hHeld (fun e => e.2.2 rfl) _ _) (fun hHeld => ?_)
           clear hK K0
           (try simp only [Act.put, sA, sB, sC])
           refine wpAnyH_done (by kernel_rfl) ?_ _
           clear hHeld z0 z1 e0 e1
           go_wp2
           have HT2 := rp_other (st_put Z_9.out rfl (.slice A0 n0 c0) (.slice B0 q0 d0) (.slice X0 xn0 xc0) (.slice Y0 yn0 yc0) (.int .i64 t0)) (show w.heap.size + 1 + 1 ≠ w.heap.size + 1 by omega) (.int .i64 F2) (.int .i64 0)
           have P6 := st_other P_9.out (show w.heap.size + 1 ≠ w.heap.size + 1 + 1 by omega) (.slice A0 n0 c0) (.slice B0 q0 d0) (.slice X0 xn0 xc0) (.slice Y0 yn0 yc0) (.int .i64 t0)
           have HT3 := rp_put P6 rfl (.int .i64 F2) (.int .i64 0)
           have HTV := sk_rp (sk_zero HV_9.out Z_9.out (.slice A0 n0 c0) (.slice B0 q0 d0) (.slice X0 xn0 xc0) (.slice Y0 yn0 yc0) (.int .i64 t0)) P6 (.int .i64 F2) (.int .i64 0)
           have HTB := rp_below (st_below HL_9.out (show w.heap.size ≤ w.heap.size + 1 by omega) (.slice A0 n0 c0) (.slice B0 q0 d0) (.slice X0 xn0 xc0) (.slice Y0 yn0 yc0) (.int .i64 t0)) (show w.heap.size ≤ w.heap.size + 1 + 1 by omega) (.int .i64 F2) (.int .i64 0)
           refine bodyPost_ret (results_two (p := 2) (q := 3) (ty := 35) (tz := 46) rfl _ _ (w.heap.size + 1) (w.heap.size + 1 + 1) _ _ _ _ (0, 0) _ _ rfl HT2 Tryz.underlying35 rfl (by kernel_rfl) rfl HT3 Tryz.underlying46 rfl (by kernel_rfl)) rfl ?_
           exact ⟨⟨A0, n0, c0, B0, q0, d0, X0, xn0, xc0, Y0, yn0, yc0, t0⟩, rfl, HTV, HTB, Sv.new.refl _ _⟩
     | false =>
       go_upto_region 9 with (first
         | (go_at_call 74; refine (HLN.out w5).mono ?_; rintro _ w6 ⟨rfl, hb⟩; have HX := Lib.hid hb
            have x2 := H_5.out.later hb |>.cell 2 rfl
            clear hb x2 r0 r1 r2 r3 r4 r5 r6
            have x2 := (H_5.out.later HX.out).cell 2 rfl))
       clear x2
       have HL_6 := Lib.hid (HL_5.out.trans (HX.out.mono HL_5.out.size))
       have HV_6 := Lib.hid (HV_5.out.below HX.out)
       have H_6 := Lib.hid (H_5.out.later HX.out)
       have Z_6 := Lib.hid (Z_5.out.later HX.out)
       have P_6 := Lib.hid (P_5.out.later HX.out)
       have R_6 := Lib.hid (R_5.out.later HX.out)
       clear HL_5 HV_5 H_5 Z_5 P_5 R_5
       clear HX
       have x3 := H_6.out.cell 3 rfl
       obtain ⟨r0, r1, r2, r3, r4, r5, r6⟩ := (show _ ∧ _ ∧ _ ∧ _ ∧ _ ∧ _ ∧ _ from ⟨R_6.out.cell 0 rfl, R_6.out.cell 1 rfl, R_6.out.cell 2 rfl, R_6.out.cell 3 rfl, R_6.out.cell 4 rfl, R_6.out.cell 5 rfl, R_6.out.cell 6 rfl⟩)
       have hz6 : w.heap.size + 1 + 1 < w6.heap.size := P_6.out.lt
       by_cases hp2 : F2 = 0
       · subst hp2
         rw [show errV 0 = .nilIface from rfl] at HPU
         obtain rfl : O = ⟨⟨T6, sl, K6⟩, E6, I6⟩ := by rw [← HO.out]; rfl
         go_upto_region 12 with (first
           | (go_at_call 36; refine (HPU.out _ HL_6.out).mono ?_; rintro _ w7 ⟨vk, rfl, hok, hb⟩
              have HX := Lib.hid hb
              have HOK := Lib.hid hok
              clear hb hok x3 r0 r1 r2 r3 r4 r5 r6))
         have HL_7 := Lib.hid (HL_6.out.trans (HX.out.mono HL_6.out.size))
         have HV_7 := Lib.hid (HV_6.out.below HX.out)
         have H_7 := Lib.hid (H_6.out.later HX.out)
         have Z_7 := Lib.hid (Z_6.out.later HX.out)
         have P_7 := Lib.hid (P_6.out.later HX.out)
         have R_7 := Lib.hid (R_6.out.later HX.out)
         clear HL_6 HV_6 H_6 Z_6 P_6 R_6
         clear HX
         obtain ⟨K, kc, rfl, hk1, hk2, hk3, hk4⟩ := HOK.out.form
         obtain ⟨kn, hkn⟩ : ∃ m, K2.length = m := ⟨_, rfl⟩
         rw [hkn] at hk2 hk4 HOK ⊢
         have HKF := Lib.hid (fun a (e : K = some a) => show w6.heap.size ≤ a.block from HOK.out.rowLt a.block (by rw [e]; rfl))
         have HK1 := Lib.hid hk1
         have HKN := Lib.hid hkn
         have HKS := Lib.hid (show Sl K kn kc from ⟨hk4, hk2, hk3⟩)
         have hz7 : w.heap.size + 1 + 1 < w7.heap.size := P_7.out.lt
         have hs67 := HL_7.out.size
         clear hk1 hk2 hk3 hk4 hkn
         have hkb : w.heap.size ≤ w6.heap.size := by omega
         have D := Lib.hid (HWI.out w7 HL_7.out K kn kc HK1.out HKN.out HKS.out)
         clear HWI
         obtain ⟨x0, x1, x2, x3, x4⟩ := (show _ ∧ _ ∧ _ ∧ _ ∧ _ from ⟨H_7.out.cell 0 rfl, H_7.out.cell 1 rfl, H_7.out.cell 2 rfl, H_7.out.cell 3 rfl, H_7.out.cell 4 rfl⟩)
         go_upto_region 13 with (first
           | (go_at_call 108; refine D.out.mono ?_; rintro _ w8 ⟨V5, rfl, hv, hb, hin0, hap0⟩
              obtain ⟨A5, n5, c5, B5, q5, d5, X5, xn5, xc5, Y5, yn5, yc5, t5⟩ := V5
              dsimp only at hv hin0 hap0 ⊢
              have HVa := Lib.hid hv
              have HXa := Lib.hid hb
              have hle78 := hb.size
              have HAa := Lib.hid hap0
              have HIN := Lib.hid (fun (p : Nat → Prop) (hp : ∀ b, w.heap.size ≤ b → p b) => hin0 p (fun b hb => hp b (by omega)) (fun a e => hp _ (by have := HKF.out a e; omega)))
              clear hv hb hin0 hap0 x0 x1 x2 x3 x4))
         clear D HK1 HKF HKS HKN HOK
         have HL_8 := Lib.hid (HL_7.out.trans (HXa.out.mono HL_7.out.size))
         have HV_8 := Lib.hid (HV_7.out.below HXa.out)
         have H_8 := Lib.hid (H_7.out.later HXa.out)
         have Z_8 := Lib.hid (Z_7.out.later HXa.out)
         have P_8 := Lib.hid (P_7.out.later HXa.out)
         have R_8 := Lib.hid (R_7.out.later HXa.out)
         clear HL_7 HV_7 H_7 Z_7 P_7 R_7
         have HW_8 := Lib.hid (HVa.out)
         have AW_8 := Lib.hid (HAa.out)
         clear HXa HVa HAa
         have hs8 := HL_8.out.size
         have al := (Below.refl w8.heap.size w8).alloc (Nat.le_refl _) (.cells #[.slice A5 n5 c5, .slice B5 q5 d5, .slice X5 xn5 xc5, .slice Y5 yn5 yc5, .int .i64 t5] 35)
         have nb0 := Blk.new w8 35 #[.slice A5 n5 c5, .slice B5 q5 d5, .slice X5 xn5 xc5, .slice Y5 yn5 yc5, .int .i64 t5]
         have HL_9 := Lib.hid (HL_8.out.trans (al.mono HL_8.out.size))
         have HV_9 := Lib.hid (HV_8.out.below al)
         have H_9 := Lib.hid (H_8.out.later al)
         have Z_9 := Lib.hid (Z_8.out.later al)
         have P_9 := Lib.hid (P_8.out.later al)
         have R_9 := Lib.hid (R_8.out.later al)
         have HW_9 := Lib.hid (HW_8.out.below al)
         have AW_9 := Lib.hid (AW_8.out.below al)
         clear al HL_8 HV_8 H_8 Z_8 P_8 R_8 HW_8 AW_8
         have U_9 := Lib.hid (nb0)
         clear nb0
         generalize w8.alloc (.cells #[.slice A5 n5 c5, .slice B5 q5 d5, .slice X5 xn5 xc5, .slice Y5 yn5 yc5, .int .i64 t5] 35) = w9 at HL_9 HV_9 H_9 Z_9 P_9 R_9 HW_9 AW_9 U_9 ⊢
         generalize w8.heap.size = gu at U_9 hle78 hs8 ⊢
         have hgu9 : gu < w9.heap.size := U_9.out.lt
         obtain ⟨r0, r1, r2, r3, r4, r5, r6⟩ := (show _ ∧ _ ∧ _ ∧ _ ∧ _ ∧ _ ∧ _ from ⟨R_9.out.cell 0 rfl, R_9.out.cell 1 rfl, R_9.out.cell 2 rfl, R_9.out.cell 3 rfl, R_9.out.cell 4 rfl, R_9.out.cell 5 rfl, R_9.out.cell 6 rfl⟩)
         go_upto_region 15 with (first | (go_at_call 74; refine (HLN.out w9).mono ?_; rintro _ w10 ⟨rfl, hb⟩; have HX := Lib.hid hb; clear hb r0 r1 r2 r3 r4 r5 r6))
         have hle10 := HX.out.size
         have HL_10 := Lib.hid (HL_9.out.trans (HX.out.mono HL_9.out.size))
         have HV_10 := Lib.hid (HV_9.out.below HX.out)
         have H_10 := Lib.hid (H_9.out.later HX.out)
         have Z_10 := Lib.hid (Z_9.out.later HX.out)
         have P_10 := Lib.hid (P_9.out.later HX.out)
         have R_10 := Lib.hid (R_9.out.later HX.out)
         have HW_10 := Lib.hid (HW_9.out.below HX.out)
         have AW_10 := Lib.hid (AW_9.out.below HX.out)
         have U_10 := Lib.hid (U_9.out.later HX.out)
         clear HL_9 HV_9 H_9 Z_9 P_9 R_9 HW_9 AW_9 U_9
         clear HX
         have D := Lib.hid (HDO.out w10 ⟨A5, n5, c5, B5, q5, d5, X5, xn5, xc5, Y5, yn5, yc5, t5⟩ HW_10.out (HH.out.below HL_10.out))
         dsimp only at D
         clear HDO
         obtain ⟨x0, x1, x2, x3, x4⟩ := (show _ ∧ _ ∧ _ ∧ _ ∧ _ from ⟨U_10.out.cell 0 rfl, U_10.out.cell 1 rfl, U_10.out.cell 2 rfl, U_10.out.cell 3 rfl, U_10.out.cell 4 rfl⟩)
         obtain ⟨r0, r1, r2, r3, r4, r5, r6⟩ := (show _ ∧ _ ∧ _ ∧ _ ∧ _ ∧ _ ∧ _ from ⟨R_10.out.cell 0 rfl, R_10.out.cell 1 rfl, R_10.out.cell 2 rfl, R_10.out.cell 3 rfl, R_10.out.cell 4 rfl, R_10.out.cell 5 rfl, R_10.out.cell 6 rfl⟩)
         go_upto_region 16 with (first
           | (go_at_call 75; refine D.out.mono ?_; rintro _ w11 ⟨V6, rfl, hv, hb, hnw⟩
              obtain ⟨A6, n6, c6, B6, q6, d6, X6, xn6, xc6, Y6, yn6, yc6, t6⟩ := V6
              dsimp only at hv hnw ⊢
              have HVb := Lib.hid hv
              have HXb := Lib.hid hb
              have HNB := Lib.hid hnw
              clear hv hb hnw x0 x1 x2 x3 x4 r0 r1 r2 r3 r4 r5 r6))
         clear D
         have hle11 := HXb.out.size
         clear HW_10 AW_10 U_10
         have HL_11 := Lib.hid (HL_10.out.trans (HXb.out.mono HL_10.out.size))
         have HV_11 := Lib.hid (HV_10.out.below HXb.out)
         have H_11 := Lib.hid (H_10.out.later HXb.out)
         have Z_11 := Lib.hid (Z_10.out.later HXb.out)
         have P_11 := Lib.hid (P_10.out.later HXb.out)
         have R_11 := Lib.hid (R_10.out.later HXb.out)
         clear HL_10 HV_10 H_10 Z_10 P_10 R_10
         have HW_11 := Lib.hid (HVb.out)
         clear HXb HVb
         have hz11 : w.heap.size + 1 + 1 < w11.heap.size := P_11.out.lt
         have al := (Below.refl w11.heap.size w11).alloc (Nat.le_refl _) (.cells #[.slice A6 n6 c6, .slice B6 q6 d6, .slice X6 xn6 xc6, .slice Y6 yn6 yc6, .int .i64 t6] 35)
         replace al := al.alloc (by simp; try omega) (.cells #[.int .i64 E6, .int .i64 I6] 46)
         have nb0 := (Blk.new w11 35 #[.slice A6 n6 c6, .slice B6 q6 d6, .slice X6 xn6 xc6, .slice Y6 yn6 yc6, .int .i64 t6]).more (.cells #[.int .i64 E6, .int .i64 I6] 46)
         have nb1 := Blk.new (w11.alloc (.cells #[.slice A6 n6 c6, .slice B6 q6 d6, .slice X6 xn6 xc6, .slice Y6 yn6 yc6, .int .i64 t6] 35)) 46 #[.int .i64 E6, .int .i64 I6]
         rw [alloc_size] at nb1
         have HL_12 := Lib.hid (HL_11.out.trans (al.mono HL_11.out.size))
         have HV_12 := Lib.hid (HV_11.out.below al)
         have H_12 := Lib.hid (H_11.out.later al)
         have Z_12 := Lib.hid (Z_11.out.later al)
         have P_12 := Lib.hid (P_11.out.later al)
         have R_12 := Lib.hid (R_11.out.later al)
         have HW_12 := Lib.hid (HW_11.out.below al)
         clear al HL_11 HV_11 H_11 Z_11 P_11 R_11 HW_11
         have D1_12 := Lib.hid (nb0)
         have Q_12 := Lib.hid (nb1)
         clear nb0 nb1
         generalize (w11.alloc (.cells #[.slice A6 n6 c6, .slice B6 q6 d6, .slice X6 xn6 xc6, .slice Y6 yn6 yc6, .int .i64 t6] 35)).alloc (.cells #[.int .i64 E6, .int .i64 I6] 46) = w12 at HL_12 HV_12 H_12 Z_12 P_12 R_12 HW_12 D1_12 Q_12 ⊢
         generalize w11.heap.size = gd at D1_12 Q_12 hz11 hle11 ⊢
         have hgd12 : gd + 1 < w12.heap.size := Q_12.out.lt
         refine wp_region_held_drew (S := fun w' => On (fun k => k < w12.heap.size ∧ k ≠ w.heap.size + 1 ∧ k ≠ w.heap.size + 1 + 1) w12 w') (by kernel_rfl) (On.refl _ w12).drew (fun hHeld => ?_)
         refine tk 0 76 (v := ?_) ?_ ?_
         rotate_left
         · intro w' hSw
           have hSw' := hSw
           (try dsimp only at hSw')
           obtain ⟨j0, j1, j2, j3, j4⟩ := (show _ ∧ _ ∧ _ ∧ _ ∧ _ from ⟨(Blk.on D1_12.out hSw' ⟨D1_12.out.lt, by omega, by omega⟩).cell 0 rfl, (Blk.on D1_12.out hSw' ⟨D1_12.out.lt, by omega, by omega⟩).cell 1 rfl, (Blk.on D1_12.out hSw' ⟨D1_12.out.lt, by omega, by omega⟩).cell 2 rfl, (Blk.on D1_12.out hSw' ⟨D1_12.out.lt, by omega, by omega⟩).cell 3 rfl, (Blk.on D1_12.out hSw' ⟨D1_12.out.lt, by omega, by omega⟩).cell 4 rfl⟩)
           go_simp
           (try with_reducible rfl)
         (try simp only [Act.put, sA, sB, sC])
         refine tk 1 77 (v := ?_) ?_ ?_
         rotate_left
         · intro w' hSw
           go_simp
           (try with_reducible rfl)
         (try simp only [Act.put, sA, sB, sC])
         refine tk 2 78 (v := ?_) ?_ ?_
         rotate_left
         · intro w' hSw
           have hSw' := hSw
           (try dsimp only at hSw')
           have j0 := (Blk.on R_12.out hSw' ⟨R_12.out.lt, by omega, by omega⟩).cell 0 rfl
           go_simp
           (try with_reducible rfl)
         (try simp only [Act.put, sA, sB, sC])
         refine tk 3 79 (v := ?_) ?_ ?_
         rotate_left
         · intro w' hSw
           have hSw' := hSw
           (try dsimp only at hSw')
           obtain ⟨j0, j1⟩ := (show _ ∧ _ from ⟨(Blk.on Q_12.out hSw' ⟨Q_12.out.lt, by omega, by omega⟩).cell 0 rfl, (Blk.on Q_12.out hSw' ⟨Q_12.out.lt, by omega, by omega⟩).cell 1 rfl⟩)
           go_simp
           (try with_reducible rfl)
         (try simp only [Act.put, sA, sB, sC])
         refine tk 5 81 (v := ?_) ?_ ?_
         rotate_left
         · intro w' hSw
           have hSw' := hSw
           (try dsimp only at hSw')
           obtain ⟨j0, j1⟩ := (show _ ∧ _ from ⟨(Blk.on Q_12.out hSw' ⟨Q_12.out.lt, by omega, by omega⟩).cell 0 rfl, (Blk.on Q_12.out hSw' ⟨Q_12.out.lt, by omega, by omega⟩).cell 1 rfl⟩)
           go_simp
           (try with_reducible rfl)
         (try simp only [Act.put, sA, sB, sC])
         have hbd : Below w12.heap.size w12 w12.drew := (Below.refl _ _).drew
         have HL_13 := Lib.hid (HL_12.out.trans (hbd.mono HL_12.out.size))
         have HV_13 := Lib.hid (HV_12.out.below hbd)
         have H_13 := Lib.hid (H_12.out.later hbd)
         have Z_13 := Lib.hid (Z_12.out.later hbd)
         have P_13 := Lib.hid (P_12.out.later hbd)
         have R_13 := Lib.hid (R_12.out.later hbd)
         have HW_13 := Lib.hid (HW_12.out.below hbd)
         have D1_13 := Lib.hid (D1_12.out.later hbd)
         have Q_13 := Lib.hid (Q_12.out.later hbd)
         clear HL_12 HV_12 H_12 Z_12 P_12 R_12 HW_12 D1_12 Q_12
         clear hbd
         have hzd : w12.drew.heap.size = w12.heap.size := rfl
         have HZD := Lib.hid hzd
         clear hzd
         generalize w12.drew = wd at hHeld HZD HL_13 HV_13 H_13 Z_13 P_13 R_13 HW_13 D1_13 Q_13 ⊢
         have hszd : wd.heap.size = w12.heap.size := HZD.out
         refine wpAnyH_ready (rs := [4]) (by kernel_rfl) (by simp) ?_
         refine AllReadyH.cons (i := 4) rfl (fun K0 hK => ?_) AllReadyH.nil
         go_simp
         go_at_call 110
         refine (HTD.out wd ⟨A6, n6, c6, B6, q6, d6, X6, xn6, xc6, Y6, yn6, yc6, t6⟩ HW_13.out).mono ?_
         rintro _ w13 ⟨V7, rfl, hv, hb, hnw⟩
         obtain ⟨A7, n7, c7, B7, q7, d7, X7, xn7, xc7, Y7, yn7, yc7, t7⟩ := V7
         dsimp only at hv hnw ⊢
         have HV7 := Lib.hid hv
         have HNW := Lib.hid hnw
         have hH8 : On (fun k => k < w12.heap.size ∧ k ≠ w.heap.size + 1 ∧ k ≠ w.heap.size + 1 + 1) w12 w13 := hHeld.trans (On.of hb (fun k hk => by have := hk.1; omega))
         have HL_14 := Lib.hid (HL_13.out.trans (hb.mono HL_13.out.size))
         have HV_14 := Lib.hid (HV_13.out.below hb)
         have H_14 := Lib.hid (H_13.out.later hb)
         have Z_14 := Lib.hid (Z_13.out.later hb)
         have P_14 := Lib.hid (P_13.out.later hb)
         have R_14 := Lib.hid (R_13.out.later hb)
         have HW_14 := Lib.hid (HW_13.out.below hb)
         have D1_14 := Lib.hid (D1_13.out.later hb)
         have Q_14 := Lib.hid (Q_13.out.later hb)
         clear HL_13 HV_13 H_13 Z_13 P_13 R_13 HW_13 D1_13 Q_13
         clear hv hb hnw
         refine hK.out _ _ hH8 (fun hHeld => ?_)
         clear hK K0
         (try simp only [Act.put, sA, sB, sC])
         obtain ⟨y0, y1, y2, y3, y4⟩ := (show _ ∧ _ ∧ _ ∧ _ ∧ _ from ⟨Z_14.out.cell 0 rfl, Z_14.out.cell 1 rfl, Z_14.out.cell 2 rfl, Z_14.out.cell 3 rfl, Z_14.out.cell 4 rfl⟩)
         obtain ⟨f0, f1, f2, f3, f4⟩ := (show _ ∧ _ ∧ _ ∧ _ ∧ _ from ⟨Z_14.out.loose 0, Z_14.out.loose 1, Z_14.out.loose 2, Z_14.out.loose 3, Z_14.out.loose 4⟩)
         refine wpAnyH_ready (rs := [6]) (by kernel_rfl) (by simp) ?_
         refine AllReadyH.cons (i := 6) rfl (fun K0 hK => ?_) AllReadyH.nil
         go_simp
         refine hK.out _ (((((w13.setCell ⟨w.heap.size + 1, 0, none⟩ (.slice A7 n7 c7)).setCell ⟨w.heap.size + 1, 1, none⟩ (.slice B7 q7 d7)).setCell ⟨w.heap.size + 1, 2, none⟩ (.slice X7 xn7 xc7)).setCell ⟨w.heap.size + 1, 3, none⟩ (.slice Y7 yn7 yc7)).setCell ⟨w.heap.size + 1, 4, none⟩ (.int .i64 t7)) (est_on hHeld (fun e => e.2.1 rfl) (.slice A7 n7 c7) (.slice B7 q7 d7) (.slice X7 xn7 xc7) (.slice Y7 yn7 yc7) (.int .i64 t7)) (fun hHeld => ?_)
         clear hK K0
         (try simp only [Act.put, sA, sB, sC])
         clear y0 y1 y2 y3 y4 f0 f1 f2 f3 f4
         have P8 := st_other P_14.out (show w.heap.size + 1 ≠ w.heap.size + 1 + 1 by omega) (.slice A7 n7 c7) (.slice B7 q7 d7) (.slice X7 xn7 xc7) (.slice Y7 yn7 yc7) (.int .i64 t7)
         obtain ⟨z0, z1⟩ := (show _ ∧ _ from ⟨P8.cell 0 rfl, P8.cell 1 rfl⟩)
         obtain ⟨e0, e1⟩ := (show _ ∧ _ from ⟨P8.loose 0, P8.loose 1⟩)
         refine wpAnyH_ready (rs := [7]) (by kernel_rfl) (by simp) ?_
         refine AllReadyH.cons (i := 7) rfl (fun K0 hK => ?_) AllReadyH.nil
         go_simp
         refine hK.out _ (((((((w13.setCell ⟨w.heap.size + 1, 0, none⟩ (.slice A7 n7 c7)).setCell ⟨w.heap.size + 1, 1, none⟩ (.slice B7 q7 d7)).setCell ⟨w.heap.size + 1, 2, none⟩ (.slice X7 xn7 xc7)).setCell ⟨w.heap.size + 1, 3, none⟩ (.slice Y7 yn7 yc7)).setCell ⟨w.heap.size + 1, 4, none⟩ (.int .i64 t7)).setCell ⟨w.heap.size + 1 + 1, 0, none⟩ (.int .i64 E6)).setCell ⟨w.heap.size + 1 + 1, 1, none⟩ (.int .i64 I6)) (erp_on hHeld (fun e => e.2.2 rfl) _ _) (fun hHeld => ?_)
         clear hK K0
         (try simp only [Act.put, sA, sB, sC])
         refine wpAnyH_done (by kernel_rfl) ?_ _
         clear hHeld z0 z1 e0 e1
         go_wp2
         have HT2 := rp_other (st_put Z_14.out rfl (.slice A7 n7 c7) (.slice B7 q7 d7) (.slice X7 xn7 xc7) (.slice Y7 yn7 yc7) (.int .i64 t7)) (show w.heap.size + 1 + 1 ≠ w.heap.size + 1 by omega) (.int .i64 E6) (.int .i64 I6)
         have P6 := st_other P_14.out (show w.heap.size + 1 ≠ w.heap.size + 1 + 1 by omega) (.slice A7 n7 c7) (.slice B7 q7 d7) (.slice X7 xn7 xc7) (.slice Y7 yn7 yc7) (.int .i64 t7)
         have HT3 := rp_put P6 rfl (.int .i64 E6) (.int .i64 I6)
         have HTV := sk_rp (sk_zero HV7.out Z_14.out (.slice A7 n7 c7) (.slice B7 q7 d7) (.slice X7 xn7 xc7) (.slice Y7 yn7 yc7) (.int .i64 t7)) P6 (.int .i64 E6) (.int .i64 I6)
         have HTB := rp_below (st_below HL_14.out (show w.heap.size ≤ w.heap.size + 1 by omega) (.slice A7 n7 c7) (.slice B7 q7 d7) (.slice X7 xn7 xc7) (.slice Y7 yn7 yc7) (.int .i64 t7)) (show w.heap.size ≤ w.heap.size + 1 + 1 by omega) (.int .i64 E6) (.int .i64 I6)
         refine bodyPost_ret (results_two (p := 2) (q := 3) (ty := 35) (tz := 46) rfl _ _ (w.heap.size + 1) (w.heap.size + 1 + 1) _ _ _ _ (0, 0) _ _ rfl HT2 Tryz.underlying35 rfl (by kernel_rfl) rfl HT3 Tryz.underlying46 rfl (by kernel_rfl)) rfl ?_
         exact ⟨⟨A7, n7, c7, B7, q7, d7, X7, xn7, xc7, Y7, yn7, yc7, t7⟩, rfl, HTV, HTB, fun p hp hq => HNW.out p (fun b hb => hp b (by omega)) (HNB.out p (fun b hb => hp b (by omega)) (HIN.out p hp))⟩
       · have hev : errV F2 = eno F2 := by rw [errV, if_neg hp2]
         rw [hev] at HPU HFA
         obtain rfl : O = ⟨⟨T, sl, kl⟩, F2, 0⟩ := by rw [← HO.out]; simp [hp2]
         clear hp2 hev
         go_upto_region 11 with (first
           | (go_at_call 36; refine (HPU.out _ HL_6.out).mono ?_; rintro _ w7 ⟨vk, rfl, hok, hb⟩
              have HX := Lib.hid hb
              have HOK := Lib.hid hok
              clear hb hok x3 r0 r1 r2 r3 r4 r5 r6))
         have HL_7 := Lib.hid (HL_6.out.trans (HX.out.mono HL_6.out.size))
         have HV_7 := Lib.hid (HV_6.out.below HX.out)
         have H_7 := Lib.hid (H_6.out.later HX.out)
         have Z_7 := Lib.hid (Z_6.out.later HX.out)
         have P_7 := Lib.hid (P_6.out.later HX.out)
         have R_7 := Lib.hid (R_6.out.later HX.out)
         clear HL_6 HV_6 H_6 Z_6 P_6 R_6
         clear HX HOK
         have hz7 : w.heap.size + 1 + 1 < w7.heap.size := P_7.out.lt
         refine wp_region_held_drew (S := fun w' => On (fun k => k < w7.heap.size ∧ k ≠ w.heap.size + 1 ∧ k ≠ w.heap.size + 1 + 1) w7 w') (by kernel_rfl) (On.refl _ w7).drew (fun hHeld => ?_)
         refine tk 0 55 (v := ?_) ?_ ?_
         rotate_left
         · intro w' hSw
           go_simp
           (try with_reducible rfl)
         (try simp only [Act.put, sA, sB, sC])
         refine tk 1 56 (v := ?_) ?_ ?_
         rotate_left
         · intro w' hSw
           have hSw' := hSw
           (try dsimp only at hSw')
           obtain ⟨j0, j1, j2, j3, j4⟩ := (show _ ∧ _ ∧ _ ∧ _ ∧ _ from ⟨(Blk.on H_7.out hSw' ⟨H_7.out.lt, by omega, by omega⟩).cell 0 rfl, (Blk.on H_7.out hSw' ⟨H_7.out.lt, by omega, by omega⟩).cell 1 rfl, (Blk.on H_7.out hSw' ⟨H_7.out.lt, by omega, by omega⟩).cell 2 rfl, (Blk.on H_7.out hSw' ⟨H_7.out.lt, by omega, by omega⟩).cell 3 rfl, (Blk.on H_7.out hSw' ⟨H_7.out.lt, by omega, by omega⟩).cell 4 rfl⟩)
           go_simp
           (try with_reducible rfl)
         (try simp only [Act.put, sA, sB, sC])
         refine tk 2 57 (v := ?_) ?_ ?_
         rotate_left
         · intro w' hSw
           go_simp
           (try with_reducible rfl)
         (try simp only [Act.put, sA, sB, sC])
         have hbd : Below w7.heap.size w7 w7.drew := (Below.refl _ _).drew
         have HL_8 := Lib.hid (HL_7.out.trans (hbd.mono HL_7.out.size))
         have HV_8 := Lib.hid (HV_7.out.below hbd)
         have H_8 := Lib.hid (H_7.out.later hbd)
         have Z_8 := Lib.hid (Z_7.out.later hbd)
         have P_8 := Lib.hid (P_7.out.later hbd)
         have R_8 := Lib.hid (R_7.out.later hbd)
         clear HL_7 HV_7 H_7 Z_7 P_7 R_7
         clear hbd
         have hzd : w7.drew.heap.size = w7.heap.size := rfl
         have HZD := Lib.hid hzd
         clear hzd
         generalize w7.drew = wd at hHeld HZD HL_8 HV_8 H_8 Z_8 P_8 R_8 ⊢
         have hszd : wd.heap.size = w7.heap.size := HZD.out
         refine wpAnyH_ready (rs := [3]) (by kernel_rfl) (by simp) ?_
         refine AllReadyH.cons (i := 3) rfl (fun K0 hK => ?_) AllReadyH.nil
         go_simp
         go_at_call 107
         refine (HFA.out wd HL_8.out).mono ?_
         rintro _ w8 ⟨rfl, hb⟩
         have hH8 : On (fun k => k < w7.heap.size ∧ k ≠ w.heap.size + 1 ∧ k ≠ w.heap.size + 1 + 1) w7 w8 := hHeld.trans (On.of hb (fun k hk => by have := hk.1; omega))
         have HL_9 := Lib.hid (HL_8.out.trans (hb.mono HL_8.out.size))
         have HV_9 := Lib.hid (HV_8.out.below hb)
         have H_9 := Lib.hid (H_8.out.later hb)
         have Z_9 := Lib.hid (Z_8.out.later hb)
         have P_9 := Lib.hid (P_8.out.later hb)
         have R_9 := Lib.hid (R_8.out.later hb)
         clear HL_8 HV_8 H_8 Z_8 P_8 R_8
         clear hb
         refine hK.out _ _ hH8 (fun hHeld => ?_)
         clear hK K0
         (try simp only [Act.put, sA, sB, sC])
         obtain ⟨y0, y1, y2, y3, y4⟩ := (show _ ∧ _ ∧ _ ∧ _ ∧ _ from ⟨Z_9.out.cell 0 rfl, Z_9.out.cell 1 rfl, Z_9.out.cell 2 rfl, Z_9.out.cell 3 rfl, Z_9.out.cell 4 rfl⟩)
         obtain ⟨f0, f1, f2, f3, f4⟩ := (show _ ∧ _ ∧ _ ∧ _ ∧ _ from ⟨Z_9.out.loose 0, Z_9.out.loose 1, Z_9.out.loose 2, Z_9.out.loose 3, Z_9.out.loose 4⟩)
         refine wpAnyH_ready (rs := [4]) (by kernel_rfl) (by simp) ?_
         refine AllReadyH.cons (i := 4) rfl (fun K0 hK => ?_) AllReadyH.nil
         go_simp
         refine hK.out _ (((((w8.setCell ⟨w.heap.size + 1, 0, none⟩ (.slice A0 n0 c0)).setCell ⟨w.heap.size + 1, 1, none⟩ (.slice B0 q0 d0)).setCell ⟨w.heap.size + 1, 2, none⟩ (.slice X0 xn0 xc0)).setCell ⟨w.heap.size + 1, 3, none⟩ (.slice Y0 yn0 yc0)).setCell ⟨w.heap.size + 1, 4, none⟩ (.int .i64 t0)) (est_on hHeld (fun e => e.2.1 rfl) (.slice A0 n0 c0) (.slice B0 q0 d0) (.slice X0 xn0 xc0) (.slice Y0 yn0 yc0) (.int .i64 t0)) (fun hHeld => ?_)
         clear hK K0
         (try simp only [Act.put, sA, sB, sC])
         clear y0 y1 y2 y3 y4 f0 f1 f2 f3 f4
         have P8 := st_other P_9.out (show w.heap.size + 1 ≠ w.heap.size + 1 + 1 by omega) (.slice A0 n0 c0) (.slice B0 q0 d0) (.slice X0 xn0 xc0) (.slice Y0 yn0 yc0) (.int .i64 t0)
         obtain ⟨z0, z1⟩ := (show _ ∧ _ from ⟨P8.cell 0 rfl, P8.cell 1 rfl⟩)
         obtain ⟨e0, e1⟩ := (show _ ∧ _ from ⟨P8.loose 0, P8.loose 1⟩)
         refine wpAnyH_ready (rs := [5]) (by kernel_rfl) (by simp) ?_
         refine AllReadyH.cons (i := 5) rfl (fun K0 hK => ?_) AllReadyH.nil
         go_simp
         refine hK.out _ (((((((w8.setCell ⟨w.heap.size + 1, 0, none⟩ (.slice A0 n0 c0)).setCell ⟨w.heap.size + 1, 1, none⟩ (.slice B0 q0 d0)).setCell ⟨w.heap.size + 1, 2, none⟩ (.slice X0 xn0 xc0)).setCell ⟨w.heap.size + 1, 3, none⟩ (.slice Y0 yn0 yc0)).setCell ⟨w.heap.size + 1, 4, none⟩ (.int .i64 t0)).setCell ⟨w.heap.size + 1 + 1, 0, none⟩ (.int .i64 F2)).setCell ⟨w.heap.size + 1 + 1, 1, none⟩ (.int .i64 0)) (erp_on hHeld (fun e => e.2.2 rfl) _ _) (fun hHeld => ?_)
         clear hK K0
         (try simp only [Act.put, sA, sB, sC])
         refine wpAnyH_done (by kernel_rfl) ?_ _
         clear hHeld z0 z1 e0 e1
         go_wp2
         have HT2 := rp_other (st_put Z_9.out rfl (.slice A0 n0 c0) (.slice B0 q0 d0) (.slice X0 xn0 xc0) (.slice Y0 yn0 yc0) (.int .i64 t0)) (show w.heap.size + 1 + 1 ≠ w.heap.size + 1 by omega) (.int .i64 F2) (.int .i64 0)
         have P6 := st_other P_9.out (show w.heap.size + 1 ≠ w.heap.size + 1 + 1 by omega) (.slice A0 n0 c0) (.slice B0 q0 d0) (.slice X0 xn0 xc0) (.slice Y0 yn0 yc0) (.int .i64 t0)
         have HT3 := rp_put P6 rfl (.int .i64 F2) (.int .i64 0)
         have HTV := sk_rp (sk_zero HV_9.out Z_9.out (.slice A0 n0 c0) (.slice B0 q0 d0) (.slice X0 xn0 xc0) (.slice Y0 yn0 yc0) (.int .i64 t0)) P6 (.int .i64 F2) (.int .i64 0)
         have HTB := rp_below (st_below HL_9.out (show w.heap.size ≤ w.heap.size + 1 by omega) (.slice A0 n0 c0) (.slice B0 q0 d0) (.slice X0 xn0 xc0) (.slice Y0 yn0 yc0) (.int .i64 t0)) (show w.heap.size ≤ w.heap.size + 1 + 1 by omega) (.int .i64 F2) (.int .i64 0)
         refine bodyPost_ret (results_two (p := 2) (q := 3) (ty := 35) (tz := 46) rfl _ _ (w.heap.size + 1) (w.heap.size + 1 + 1) _ _ _ _ (0, 0) _ _ rfl HT2 Tryz.underlying35 rfl (by kernel_rfl) rfl HT3 Tryz.underlying46 rfl (by kernel_rfl)) rfl ?_
         exact ⟨⟨A0, n0, c0, B0, q0, d0, X0, xn0, xc0, Y0, yn0, yc0, t0⟩, rfl, HTV, HTB, Sv.new.refl _ _⟩
end Go.Proofs.YteifgmdaggiaaaaGreatDoor
