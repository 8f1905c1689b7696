/-
  A transfer that others must agree to, from its beginning to its end: the program's transfer by its contract.
-/
import Derived.Test.YteifgmdaggiaaaaGreatDoorWBankOn
namespace Go.Proofs.YteifgmdaggiaaaaGreatDoor
open Go Go.RowKit
set_option linter.unusedVariables false
theorem rsv_fits {T : St} {sl : List Sg} {kl : List Kn} (h : Fits T sl kl) (r : Rq) : Fits (rsvS T r) sl kl := ⟨rsv_right h.rt, by unfold rsvS; split <;> exact h.q, h.sl, h.kl⟩
theorem begin_small {r : Rq} (h : 0 ≤ r.legs ∧ r.legs ≤ 4) : (beginS r).small ∧ (beginS r).ph = 0 ∧ mostS (beginS r) ≤ 20 := by
 refine ⟨small_begin r h, rfl, ?_⟩
 unfold mostS beginS
 dsimp only
 rw [if_pos rfl]
 split <;> omega
/-- A state, an error by its number, so many answers used; nothing else below is turned. -/
def TrRes (w : World) (V : Sv) (g : Nat) (la : Option Addr) (ln lc : Nat) (ls : List Bool) (sl : List Sg) (kl : List Kn) (X : Tx) (e : Ending) (w' : World) : Prop :=
 ∃ V' : Sv, e = .returned (.tuple #[V'.val, errV X.E]) ∧ SkAt w' V' X.T sl kl ∧ AnsAt w' g la ln lc ls X.n ∧ On (fun k => k < w.heap.size ∧ k ≠ g) w w' ∧ V.new V' w.heap.size
set_option maxRecDepth 100000 in
set_option maxHeartbeats 4000000 in
theorem btransfer_any (V : Sv) (T : St) (sl : List Sg) (kl : List Kn) (r : Rq) (w : World) (g : Nat) (la : Option Addr) (ln lc : Nat) (ls : List Bool) (h : SkAt w V T sl kl) (hf : Fits T sl kl) (ha : AnsAt w g la ln lc ls 0) (hm : ln ≤ 9223372036854775806) (hr : 0 ≤ r.legs ∧ r.legs ≤ 4) :
  Calls Tryz.prog 76 #[V.val, r.val, nxV g] w (TrRes w V g la ln lc ls sl kl (trf T r ls)) := by
 have HV := Lib.hid h
 have HA := Lib.hid ha
 have hgl : g < w.heap.size := ha.blk.lt
 have HRS := Lib.hid (fun W (hb : Below w.heap.size w W) => oreserve_any V T sl kl r W (h.below hb) hf)
 have HUN := Lib.hid (fun W V4 (h4 : SkAt W V4 (rsvS T r) sl kl) => bundo_any V4 (rsvS T r) sl kl r W h4 (rsv_fits hf r))
 have HSE := Lib.hid (fun W V4 (h4 : SkAt W V4 (rsvS T r) sl kl) => osettle_any V4 (rsvS T r) sl kl r W h4 (rsv_fits hf r))
 have HBG := Lib.hid (fun W => sbegin_any r W)
 obtain ⟨b1, b2, b3⟩ := begin_small hr
 have HFI := Lib.hid (fun W (h1 : AnsAt W g la ln lc ls 0) => finish_any W g la ln lc ls 0 (beginS r) h1 hm b1 b2 b3)
 unfold trf
 rw [show finGo ls 20 (beginS r) 0 = fin ls r from rfl] at HFI
 generalize rsvS T r = T1 at HRS HUN HSE ⊢
 generalize rsvE T r = E1 at HRS ⊢
 generalize fin ls r = F at HFI ⊢
 generalize setS T1 r = T2 at HSE ⊢
 generalize setE T1 r = E2 at HSE ⊢
 generalize undS T1 r = T3 at HUN ⊢
 obtain ⟨A, n, c, B, q, d, X, xn, xc, Y, yn, yc, t⟩ := V
 obtain ⟨k, o, a, b, m, l, u⟩ := r
 obtain ⟨q1, q2, q3, q4⟩ := st3_all w #[.slice A n c, .slice B q d, .slice X xn xc, .slice Y yn yc, .int .i64 t] (rqC k o a b m l u)
 have HB1 := Lib.hid q1
 have HBR := Lib.hid q2
 have HBZ := Lib.hid q3
 have HBL := Lib.hid q4
 have HA3 := Lib.hid (HA.out.below q4)
 have HO3 := Lib.hid (On.of (F := fun k => k < w.heap.size ∧ k ≠ g) q4 (fun k hk => hk.1))
 unfold SkE at HRS HSE
 unfold SgRes at HBG
 unfold beginS Sg.val Rq.val at HBG
 unfold beginS Sg.val at HFI
 unfold Sv.val Sv.cells Rq.val at HRS
 unfold Sv.val Sv.cells Rq.val at HUN HSE
 unfold Sv.val Sv.cells Rq.val
 dsimp only at HRS HUN HSE HBG HFI ⊢
 clear h hf ha hm hr q1 q2 q3 q4 b1 b2 b3
 by_cases h1 : E1 = 0
 · subst h1
   rw [show errV 0 = .nilIface from rfl] at HRS
   rw [if_pos rfl]
   obtain ⟨F1, F2⟩ := F
   dsimp only at HFI ⊢
   by_cases h2 : F1 = 0
   · subst h2
     rw [show errV 0 = .nilIface from rfl] at HFI
     rw [if_pos rfl]
     by_cases h3 : E2 = 0
     · subst h3
       rw [show errV 0 = .nilIface from rfl] at HSE
       rw [if_pos rfl]
       go_enter Tryz.func76, Tryz.ntmps76
       go_upto_region 1 with fail
       generalize (((w.alloc (.cells #[.slice A n c, .slice B q d, .slice X xn xc, .slice Y yn yc, .int .i64 t] 35)).alloc (.cells (rqC k o a b m l u) 42)).alloc (.cells st0 35)) = w3 at HB1 HBR HBZ HBL HA3 HO3 ⊢
       have hsz3 : w.heap.size + 1 + 1 < w3.heap.size := HBZ.out.lt
       obtain ⟨x0, x1, x2, x3, x4⟩ := (show _ ∧ _ ∧ _ ∧ _ ∧ _ from ⟨HB1.out.cell 0 rfl, HB1.out.cell 1 rfl, HB1.out.cell 2 rfl, HB1.out.cell 3 rfl, HB1.out.cell 4 rfl⟩)
       obtain ⟨r0, r1, r2, r3, r4, r5, r6⟩ := (show _ ∧ _ ∧ _ ∧ _ ∧ _ ∧ _ ∧ _ from ⟨HBR.out.cell 0 rfl, HBR.out.cell 1 rfl, HBR.out.cell 2 rfl, HBR.out.cell 3 rfl, HBR.out.cell 4 rfl, HBR.out.cell 5 rfl, HBR.out.cell 6 rfl⟩)
       go_upto_region 2 with (first
         | (go_at_call 102; refine (HRS.out _ HBL.out).mono ?_; rintro _ w4 ⟨V4, rfl, hv4, hb4, hn4⟩
            obtain ⟨A4, n4, c4, B4, q4, d4, X4, xn4, xc4, Y4, yn4, yc4, t4⟩ := V4
            dsimp only at hv4 ⊢
            have HV4 := Lib.hid hv4
            have HN4 := Lib.hid hn4
            have HX4 := Lib.hid hb4
            clear hv4 hb4 hn4 x0 x1 x2 x3 x4 r0 r1 r2 r3 r4 r5 r6))
       have hz4 := HX4.out.size
       have HB14 := Lib.hid (HB1.out.later HX4.out)
       have HBR4 := Lib.hid (HBR.out.later HX4.out)
       have HBZ4 := Lib.hid (HBZ.out.later HX4.out)
       have HA4 := Lib.hid (HA3.out.below HX4.out)
       have HO4 := Lib.hid (HO3.out.same HX4.out (fun k hk => by have := hk.1; omega))
       have HB15 := Lib.hid (HB14.out.more (.cells #[.slice A4 n4 c4, .slice B4 q4 d4, .slice X4 xn4 xc4, .slice Y4 yn4 yc4, .int .i64 t4] 35))
       have HBR5 := Lib.hid (HBR4.out.more (.cells #[.slice A4 n4 c4, .slice B4 q4 d4, .slice X4 xn4 xc4, .slice Y4 yn4 yc4, .int .i64 t4] 35))
       have HBZ5 := Lib.hid (HBZ4.out.more (.cells #[.slice A4 n4 c4, .slice B4 q4 d4, .slice X4 xn4 xc4, .slice Y4 yn4 yc4, .int .i64 t4] 35))
       have HN5 := Lib.hid (Blk.new w4 35 #[.slice A4 n4 c4, .slice B4 q4 d4, .slice X4 xn4 xc4, .slice Y4 yn4 yc4, .int .i64 t4])
       have al5 := (Below.refl w4.heap.size w4).alloc (Nat.le_refl _) (.cells #[.slice A4 n4 c4, .slice B4 q4 d4, .slice X4 xn4 xc4, .slice Y4 yn4 yc4, .int .i64 t4] 35)
       have HV5 := Lib.hid (HV4.out.below al5)
       have HA5 := Lib.hid (HA4.out.below al5)
       have HO5 := Lib.hid (HO4.out.same al5 (fun k hk => by have := hk.1; omega))
       clear al5 HB14 HBR4 HBZ4 HV4 HA4 HO4 HB1 HBR HBZ HA3 HO3 HRS HBL HX4
       generalize w4.alloc (.cells #[.slice A4 n4 c4, .slice B4 q4 d4, .slice X4 xn4 xc4, .slice Y4 yn4 yc4, .int .i64 t4] 35) = w5 at HB15 HBR5 HBZ5 HN5 HV5 HA5 HO5 ⊢
       generalize w4.heap.size = g8 at HN5 hz4 ⊢
       obtain ⟨r0, r1, r2, r3, r4, r5, r6⟩ := (show _ ∧ _ ∧ _ ∧ _ ∧ _ ∧ _ ∧ _ from ⟨HBR5.out.cell 0 rfl, HBR5.out.cell 1 rfl, HBR5.out.cell 2 rfl, HBR5.out.cell 3 rfl, HBR5.out.cell 4 rfl, HBR5.out.cell 5 rfl, HBR5.out.cell 6 rfl⟩)
       go_upto_region 5 with (first
         | (go_at_call 104; refine (HBG.out _).mono ?_; rintro _ w6 ⟨rfl, hb6⟩
            have HX6 := Lib.hid hb6
            have HA6 := Lib.hid (HA5.out.below hb6)
            clear hb6 r0 r1 r2 r3 r4 r5 r6)
         | (go_at_call 103; refine (HFI.out _ HA6.out).mono ?_; rintro _ w7 ⟨rfl, ha7, ho7⟩
            have HA7 := Lib.hid ha7
            have HY7 := Lib.hid ho7
            clear ha7 ho7))
       have HBR6 := Lib.hid (HBR5.out.later HX6.out)
       have HBZ6 := Lib.hid (HBZ5.out.later HX6.out)
       have HN6 := Lib.hid (HN5.out.later HX6.out)
       have HV6 := Lib.hid (HV5.out.below HX6.out)
       have HO6 := Lib.hid (HO5.out.same HX6.out (fun k hk => by have := hk.1; have := HO5.out.size; omega))
       have HBR7 := Lib.hid (Blk.on HBR6.out HY7.out ⟨HBR6.out.lt, by omega⟩)
       have HBZ7 := Lib.hid (Blk.on HBZ6.out HY7.out ⟨HBZ6.out.lt, by omega⟩)
       have HN7 := Lib.hid (Blk.on HN6.out HY7.out ⟨HN6.out.lt, by omega⟩)
       have HV7 := Lib.hid (HV6.out.on HA6.out.blk (thin_an la ln lc _) HY7.out)
       have HO7 := Lib.hid (HO6.out.trans (On.of_on HY7.out (fun k hk => ⟨by have := hk.1; have := HO6.out.size; omega, hk.2⟩)))
       clear HBR6 HBZ6 HN6 HV6 HO6 HA6 HX6 HBR5 HBZ5 HN5 HV5 HA5 HO5 HB15 HFI HBG
       obtain ⟨x0, x1, x2, x3, x4⟩ := (show _ ∧ _ ∧ _ ∧ _ ∧ _ from ⟨HN7.out.cell 0 rfl, HN7.out.cell 1 rfl, HN7.out.cell 2 rfl, HN7.out.cell 3 rfl, HN7.out.cell 4 rfl⟩)
       obtain ⟨r0, r1, r2, r3, r4, r5, r6⟩ := (show _ ∧ _ ∧ _ ∧ _ ∧ _ ∧ _ ∧ _ from ⟨HBR7.out.cell 0 rfl, HBR7.out.cell 1 rfl, HBR7.out.cell 2 rfl, HBR7.out.cell 3 rfl, HBR7.out.cell 4 rfl, HBR7.out.cell 5 rfl, HBR7.out.cell 6 rfl⟩)
       have HS8 := Lib.hid (HSE.out _ _ HV7.out)
       dsimp only at HS8
       go_upto_region 8 with (first
         | (go_at_call 106; refine HS8.out.mono ?_; rintro _ w9 ⟨V9, rfl, hv9, hb9, hn9⟩
            obtain ⟨A9, n9, c9, B9, q9, d9, X9, xn9, xc9, Y9, yn9, yc9, t9⟩ := V9
            dsimp only at hv9 ⊢
            have HV9 := Lib.hid hv9
            have HN9 := Lib.hid hn9
            have HX9 := Lib.hid hb9
            clear hv9 hb9 hn9 x0 x1 x2 x3 x4 r0 r1 r2 r3 r4 r5 r6))
       have hz9 := HX9.out.size
       have HSZ7 := Lib.hid HO7.out.size
       have HBR9 := Lib.hid (HBR7.out.later HX9.out)
       have HBZ9 := Lib.hid (HBZ7.out.later HX9.out)
       have HN9 := Lib.hid (HN7.out.later HX9.out)
       have HA9 := Lib.hid (HA7.out.below HX9.out)
       have HW9 := Lib.hid (HV7.out.below HX9.out)
       have HO9 := Lib.hid (HO7.out.same HX9.out (fun k hk => by have := hk.1; have := HO7.out.size; omega))
       have HBRa := Lib.hid (HBR9.out.more (.cells #[.slice A9 n9 c9, .slice B9 q9 d9, .slice X9 xn9 xc9, .slice Y9 yn9 yc9, .int .i64 t9] 35))
       have HBZa := Lib.hid (HBZ9.out.more (.cells #[.slice A9 n9 c9, .slice B9 q9 d9, .slice X9 xn9 xc9, .slice Y9 yn9 yc9, .int .i64 t9] 35))
       have HNa := Lib.hid (HN9.out.more (.cells #[.slice A9 n9 c9, .slice B9 q9 d9, .slice X9 xn9 xc9, .slice Y9 yn9 yc9, .int .i64 t9] 35))
       have HMa := Lib.hid (Blk.new w9 35 #[.slice A9 n9 c9, .slice B9 q9 d9, .slice X9 xn9 xc9, .slice Y9 yn9 yc9, .int .i64 t9])
       have ala := (Below.refl w9.heap.size w9).alloc (Nat.le_refl _) (.cells #[.slice A9 n9 c9, .slice B9 q9 d9, .slice X9 xn9 xc9, .slice Y9 yn9 yc9, .int .i64 t9] 35)
       have HVa := Lib.hid (HV9.out.below ala)
       have HWa := Lib.hid (HW9.out.below ala)
       have HAa := Lib.hid (HA9.out.below ala)
       have HOa := Lib.hid (HO9.out.same ala (fun k hk => by have := hk.1; have := HO9.out.size; omega))
       have hgz : w.heap.size + 1 + 1 < w9.heap.size := HBZ9.out.lt
       clear ala HBR9 HBZ9 HN9 HA9 HW9 HV9 HO9 HX9 HBR7 HBZ7 HN7 HV7 HA7 HO7 HY7 HS8 HSE
       generalize w9.alloc (.cells #[.slice A9 n9 c9, .slice B9 q9 d9, .slice X9 xn9 xc9, .slice Y9 yn9 yc9, .int .i64 t9] 35) = wa at HBRa HBZa HNa HMa HVa HWa HAa HOa ⊢
       generalize w9.heap.size = ga at HMa hz9 hgz ⊢
       obtain ⟨x0, x1, x2, x3, x4⟩ := (show _ ∧ _ ∧ _ ∧ _ ∧ _ from ⟨HMa.out.cell 0 rfl, HMa.out.cell 1 rfl, HMa.out.cell 2 rfl, HMa.out.cell 3 rfl, HMa.out.cell 4 rfl⟩)
       obtain ⟨y0, y1, y2, y3, y4⟩ := (show _ ∧ _ ∧ _ ∧ _ ∧ _ from ⟨HBZa.out.cell 0 rfl, HBZa.out.cell 1 rfl, HBZa.out.cell 2 rfl, HBZa.out.cell 3 rfl, HBZa.out.cell 4 rfl⟩)
       obtain ⟨f0, f1, f2, f3, f4⟩ := (show _ ∧ _ ∧ _ ∧ _ ∧ _ from ⟨HBZa.out.loose 0, HBZa.out.loose 1, HBZa.out.loose 2, HBZa.out.loose 3, HBZa.out.loose 4⟩)
       go_wp2
       have HP := st_put HBZa.out rfl (.slice A9 n9 c9) (.slice B9 q9 d9) (.slice X9 xn9 xc9) (.slice Y9 yn9 yc9) (.int .i64 t9)
       have HPV := sk_zero HVa.out HBZa.out (.slice A9 n9 c9) (.slice B9 q9 d9) (.slice X9 xn9 xc9) (.slice Y9 yn9 yc9) (.int .i64 t9)
       have HPA := HAa.out.st HBZa.out (by omega) (.slice A9 n9 c9) (.slice B9 q9 d9) (.slice X9 xn9 xc9) (.slice Y9 yn9 yc9) (.int .i64 t9)
       have HPO := st_on HOa.out (g := w.heap.size + 1 + 1) (by omega) (.slice A9 n9 c9) (.slice B9 q9 d9) (.slice X9 xn9 xc9) (.slice Y9 yn9 yc9) (.int .i64 t9)
       refine bodyPost_ret (results_st1 (p := 6) (x := 7) (ty := 35) rfl _ _ (w.heap.size + 1 + 1) _ _ (0, 0) _ rfl HP Tryz.underlying35 rfl (by kernel_rfl)) rfl ?_
       exact ⟨⟨A9, n9, c9, B9, q9, d9, X9, xn9, xc9, Y9, yn9, yc9, t9⟩, rfl, HPV, HPA, HPO, fun p hp hq => HN9.out p (fun b hb => hp b (by have := HSZ7.out; omega)) (HN4.out p (fun b hb => hp b (by omega)) hq)⟩
     · rw [if_neg h3]
       have HE := Lib.hid (show errV E2 = eno E2 by rw [errV, if_neg h3])
       rw [HE.out] at HSE
       clear h3
       go_enter Tryz.func76, Tryz.ntmps76
       go_upto_region 1 with fail
       generalize (((w.alloc (.cells #[.slice A n c, .slice B q d, .slice X xn xc, .slice Y yn yc, .int .i64 t] 35)).alloc (.cells (rqC k o a b m l u) 42)).alloc (.cells st0 35)) = w3 at HB1 HBR HBZ HBL HA3 HO3 ⊢
       have hsz3 : w.heap.size + 1 + 1 < w3.heap.size := HBZ.out.lt
       obtain ⟨x0, x1, x2, x3, x4⟩ := (show _ ∧ _ ∧ _ ∧ _ ∧ _ from ⟨HB1.out.cell 0 rfl, HB1.out.cell 1 rfl, HB1.out.cell 2 rfl, HB1.out.cell 3 rfl, HB1.out.cell 4 rfl⟩)
       obtain ⟨r0, r1, r2, r3, r4, r5, r6⟩ := (show _ ∧ _ ∧ _ ∧ _ ∧ _ ∧ _ ∧ _ from ⟨HBR.out.cell 0 rfl, HBR.out.cell 1 rfl, HBR.out.cell 2 rfl, HBR.out.cell 3 rfl, HBR.out.cell 4 rfl, HBR.out.cell 5 rfl, HBR.out.cell 6 rfl⟩)
       go_upto_region 2 with (first
         | (go_at_call 102; refine (HRS.out _ HBL.out).mono ?_; rintro _ w4 ⟨V4, rfl, hv4, hb4, hn4⟩
            obtain ⟨A4, n4, c4, B4, q4, d4, X4, xn4, xc4, Y4, yn4, yc4, t4⟩ := V4
            dsimp only at hv4 ⊢
            have HV4 := Lib.hid hv4
            have HN4 := Lib.hid hn4
            have HX4 := Lib.hid hb4
            clear hv4 hb4 hn4 x0 x1 x2 x3 x4 r0 r1 r2 r3 r4 r5 r6))
       have hz4 := HX4.out.size
       have HB14 := Lib.hid (HB1.out.later HX4.out)
       have HBR4 := Lib.hid (HBR.out.later HX4.out)
       have HBZ4 := Lib.hid (HBZ.out.later HX4.out)
       have HA4 := Lib.hid (HA3.out.below HX4.out)
       have HO4 := Lib.hid (HO3.out.same HX4.out (fun k hk => by have := hk.1; omega))
       have HB15 := Lib.hid (HB14.out.more (.cells #[.slice A4 n4 c4, .slice B4 q4 d4, .slice X4 xn4 xc4, .slice Y4 yn4 yc4, .int .i64 t4] 35))
       have HBR5 := Lib.hid (HBR4.out.more (.cells #[.slice A4 n4 c4, .slice B4 q4 d4, .slice X4 xn4 xc4, .slice Y4 yn4 yc4, .int .i64 t4] 35))
       have HBZ5 := Lib.hid (HBZ4.out.more (.cells #[.slice A4 n4 c4, .slice B4 q4 d4, .slice X4 xn4 xc4, .slice Y4 yn4 yc4, .int .i64 t4] 35))
       have HN5 := Lib.hid (Blk.new w4 35 #[.slice A4 n4 c4, .slice B4 q4 d4, .slice X4 xn4 xc4, .slice Y4 yn4 yc4, .int .i64 t4])
       have al5 := (Below.refl w4.heap.size w4).alloc (Nat.le_refl _) (.cells #[.slice A4 n4 c4, .slice B4 q4 d4, .slice X4 xn4 xc4, .slice Y4 yn4 yc4, .int .i64 t4] 35)
       have HV5 := Lib.hid (HV4.out.below al5)
       have HA5 := Lib.hid (HA4.out.below al5)
       have HO5 := Lib.hid (HO4.out.same al5 (fun k hk => by have := hk.1; omega))
       clear al5 HB14 HBR4 HBZ4 HV4 HA4 HO4 HB1 HBR HBZ HA3 HO3 HRS HBL HX4
       generalize w4.alloc (.cells #[.slice A4 n4 c4, .slice B4 q4 d4, .slice X4 xn4 xc4, .slice Y4 yn4 yc4, .int .i64 t4] 35) = w5 at HB15 HBR5 HBZ5 HN5 HV5 HA5 HO5 ⊢
       generalize w4.heap.size = g8 at HN5 hz4 ⊢
       obtain ⟨r0, r1, r2, r3, r4, r5, r6⟩ := (show _ ∧ _ ∧ _ ∧ _ ∧ _ ∧ _ ∧ _ from ⟨HBR5.out.cell 0 rfl, HBR5.out.cell 1 rfl, HBR5.out.cell 2 rfl, HBR5.out.cell 3 rfl, HBR5.out.cell 4 rfl, HBR5.out.cell 5 rfl, HBR5.out.cell 6 rfl⟩)
       go_upto_region 5 with (first
         | (go_at_call 104; refine (HBG.out _).mono ?_; rintro _ w6 ⟨rfl, hb6⟩
            have HX6 := Lib.hid hb6
            have HA6 := Lib.hid (HA5.out.below hb6)
            clear hb6 r0 r1 r2 r3 r4 r5 r6)
         | (go_at_call 103; refine (HFI.out _ HA6.out).mono ?_; rintro _ w7 ⟨rfl, ha7, ho7⟩
            have HA7 := Lib.hid ha7
            have HY7 := Lib.hid ho7
            clear ha7 ho7))
       have HBR6 := Lib.hid (HBR5.out.later HX6.out)
       have HBZ6 := Lib.hid (HBZ5.out.later HX6.out)
       have HN6 := Lib.hid (HN5.out.later HX6.out)
       have HV6 := Lib.hid (HV5.out.below HX6.out)
       have HO6 := Lib.hid (HO5.out.same HX6.out (fun k hk => by have := hk.1; have := HO5.out.size; omega))
       have HBR7 := Lib.hid (Blk.on HBR6.out HY7.out ⟨HBR6.out.lt, by omega⟩)
       have HBZ7 := Lib.hid (Blk.on HBZ6.out HY7.out ⟨HBZ6.out.lt, by omega⟩)
       have HN7 := Lib.hid (Blk.on HN6.out HY7.out ⟨HN6.out.lt, by omega⟩)
       have HV7 := Lib.hid (HV6.out.on HA6.out.blk (thin_an la ln lc _) HY7.out)
       have HO7 := Lib.hid (HO6.out.trans (On.of_on HY7.out (fun k hk => ⟨by have := hk.1; have := HO6.out.size; omega, hk.2⟩)))
       clear HBR6 HBZ6 HN6 HV6 HO6 HA6 HX6 HBR5 HBZ5 HN5 HV5 HA5 HO5 HB15 HFI HBG
       obtain ⟨x0, x1, x2, x3, x4⟩ := (show _ ∧ _ ∧ _ ∧ _ ∧ _ from ⟨HN7.out.cell 0 rfl, HN7.out.cell 1 rfl, HN7.out.cell 2 rfl, HN7.out.cell 3 rfl, HN7.out.cell 4 rfl⟩)
       obtain ⟨r0, r1, r2, r3, r4, r5, r6⟩ := (show _ ∧ _ ∧ _ ∧ _ ∧ _ ∧ _ ∧ _ from ⟨HBR7.out.cell 0 rfl, HBR7.out.cell 1 rfl, HBR7.out.cell 2 rfl, HBR7.out.cell 3 rfl, HBR7.out.cell 4 rfl, HBR7.out.cell 5 rfl, HBR7.out.cell 6 rfl⟩)
       have HS8 := Lib.hid (HSE.out _ _ HV7.out)
       dsimp only at HS8
       go_upto_region 8 with (first
         | (go_at_call 106; refine HS8.out.mono ?_; rintro _ w9 ⟨V9, rfl, hv9, hb9, hn9⟩
            obtain ⟨A9, n9, c9, B9, q9, d9, X9, xn9, xc9, Y9, yn9, yc9, t9⟩ := V9
            dsimp only at hv9 ⊢
            have HV9 := Lib.hid hv9
            have HN9 := Lib.hid hn9
            have HX9 := Lib.hid hb9
            clear hv9 hb9 hn9 x0 x1 x2 x3 x4 r0 r1 r2 r3 r4 r5 r6))
       have hz9 := HX9.out.size
       have HSZ7 := Lib.hid HO7.out.size
       have HBR9 := Lib.hid (HBR7.out.later HX9.out)
       have HBZ9 := Lib.hid (HBZ7.out.later HX9.out)
       have HN9 := Lib.hid (HN7.out.later HX9.out)
       have HA9 := Lib.hid (HA7.out.below HX9.out)
       have HW9 := Lib.hid (HV7.out.below HX9.out)
       have HO9 := Lib.hid (HO7.out.same HX9.out (fun k hk => by have := hk.1; have := HO7.out.size; omega))
       have HBRa := Lib.hid (HBR9.out.more (.cells #[.slice A9 n9 c9, .slice B9 q9 d9, .slice X9 xn9 xc9, .slice Y9 yn9 yc9, .int .i64 t9] 35))
       have HBZa := Lib.hid (HBZ9.out.more (.cells #[.slice A9 n9 c9, .slice B9 q9 d9, .slice X9 xn9 xc9, .slice Y9 yn9 yc9, .int .i64 t9] 35))
       have HNa := Lib.hid (HN9.out.more (.cells #[.slice A9 n9 c9, .slice B9 q9 d9, .slice X9 xn9 xc9, .slice Y9 yn9 yc9, .int .i64 t9] 35))
       have HMa := Lib.hid (Blk.new w9 35 #[.slice A9 n9 c9, .slice B9 q9 d9, .slice X9 xn9 xc9, .slice Y9 yn9 yc9, .int .i64 t9])
       have ala := (Below.refl w9.heap.size w9).alloc (Nat.le_refl _) (.cells #[.slice A9 n9 c9, .slice B9 q9 d9, .slice X9 xn9 xc9, .slice Y9 yn9 yc9, .int .i64 t9] 35)
       have HVa := Lib.hid (HV9.out.below ala)
       have HWa := Lib.hid (HW9.out.below ala)
       have HAa := Lib.hid (HA9.out.below ala)
       have HOa := Lib.hid (HO9.out.same ala (fun k hk => by have := hk.1; have := HO9.out.size; omega))
       have hgz : w.heap.size + 1 + 1 < w9.heap.size := HBZ9.out.lt
       clear ala HBR9 HBZ9 HN9 HA9 HW9 HV9 HO9 HX9 HBR7 HBZ7 HN7 HV7 HA7 HO7 HY7 HS8 HSE
       generalize w9.alloc (.cells #[.slice A9 n9 c9, .slice B9 q9 d9, .slice X9 xn9 xc9, .slice Y9 yn9 yc9, .int .i64 t9] 35) = wa at HBRa HBZa HNa HMa HVa HWa HAa HOa ⊢
       generalize w9.heap.size = ga at HMa hz9 hgz ⊢
       obtain ⟨x0, x1, x2, x3, x4⟩ := (show _ ∧ _ ∧ _ ∧ _ ∧ _ from ⟨HNa.out.cell 0 rfl, HNa.out.cell 1 rfl, HNa.out.cell 2 rfl, HNa.out.cell 3 rfl, HNa.out.cell 4 rfl⟩)
       obtain ⟨r0, r1, r2, r3, r4, r5, r6⟩ := (show _ ∧ _ ∧ _ ∧ _ ∧ _ ∧ _ ∧ _ from ⟨HBRa.out.cell 0 rfl, HBRa.out.cell 1 rfl, HBRa.out.cell 2 rfl, HBRa.out.cell 3 rfl, HBRa.out.cell 4 rfl, HBRa.out.cell 5 rfl, HBRa.out.cell 6 rfl⟩)
       have HZ7 := HBZa
       have HV8 := Lib.hid (HUN.out _ _ HWa.out)
       dsimp only at HV8
       go_wp2_with (first
         | (go_at_call 105; refine HV8.out.mono ?_; rintro _ w8 ⟨V8, rfl, hv8, hb8, hn8⟩
            obtain ⟨A8, n8, c8, B8, q8, d8, X8, xn8, xc8, Y8, yn8, yc8, t8⟩ := V8
            dsimp only at hv8 ⊢
            have HU8 := Lib.hid hv8
            have HN8 := Lib.hid hn8
            have HZ8 := Lib.hid (HZ7.out.later hb8)
            have HA8 := Lib.hid (HAa.out.below hb8)
            have HO8 := Lib.hid (HOa.out.same hb8 (fun k hk => by have := hk.1; have := HOa.out.size; omega))
            clear hv8 hb8 hn8 x0 x1 x2 x3 x4 r0 r1 r2 r3 r4 r5 r6
            obtain ⟨y0, y1, y2, y3, y4⟩ := (show _ ∧ _ ∧ _ ∧ _ ∧ _ from ⟨HZ8.out.cell 0 rfl, HZ8.out.cell 1 rfl, HZ8.out.cell 2 rfl, HZ8.out.cell 3 rfl, HZ8.out.cell 4 rfl⟩)
            obtain ⟨f0, f1, f2, f3, f4⟩ := (show _ ∧ _ ∧ _ ∧ _ ∧ _ from ⟨HZ8.out.loose 0, HZ8.out.loose 1, HZ8.out.loose 2, HZ8.out.loose 3, HZ8.out.loose 4⟩)))
       have HP := st_put HZ8.out rfl (.slice A8 n8 c8) (.slice B8 q8 d8) (.slice X8 xn8 xc8) (.slice Y8 yn8 yc8) (.int .i64 t8)
       have HPV := sk_zero HU8.out HZ8.out (.slice A8 n8 c8) (.slice B8 q8 d8) (.slice X8 xn8 xc8) (.slice Y8 yn8 yc8) (.int .i64 t8)
       have HPA := HA8.out.st HZ8.out (by omega) (.slice A8 n8 c8) (.slice B8 q8 d8) (.slice X8 xn8 xc8) (.slice Y8 yn8 yc8) (.int .i64 t8)
       have HPO := st_on HO8.out (g := w.heap.size + 1 + 1) (by omega) (.slice A8 n8 c8) (.slice B8 q8 d8) (.slice X8 xn8 xc8) (.slice Y8 yn8 yc8) (.int .i64 t8)
       refine bodyPost_ret (results_st1 (p := 6) (x := 7) (ty := 35) rfl _ _ (w.heap.size + 1 + 1) _ _ (0, 0) _ rfl HP Tryz.underlying35 rfl (by kernel_rfl)) rfl ?_
       exact ⟨⟨A8, n8, c8, B8, q8, d8, X8, xn8, xc8, Y8, yn8, yc8, t8⟩, by rw [HE.out]; rfl, HPV, HPA, HPO, fun p hp hq => HN8.out p (fun b hb => hp b (by have := HOa.out.size; omega)) (HN4.out p (fun b hb => hp b (by omega)) hq)⟩
   · rw [if_neg h2]
     have HE := Lib.hid (show errV F1 = eno F1 by rw [errV, if_neg h2])
     rw [HE.out] at HFI
     clear h2
     go_enter Tryz.func76, Tryz.ntmps76
     go_upto_region 1 with fail
     generalize (((w.alloc (.cells #[.slice A n c, .slice B q d, .slice X xn xc, .slice Y yn yc, .int .i64 t] 35)).alloc (.cells (rqC k o a b m l u) 42)).alloc (.cells st0 35)) = w3 at HB1 HBR HBZ HBL HA3 HO3 ⊢
     have hsz3 : w.heap.size + 1 + 1 < w3.heap.size := HBZ.out.lt
     obtain ⟨x0, x1, x2, x3, x4⟩ := (show _ ∧ _ ∧ _ ∧ _ ∧ _ from ⟨HB1.out.cell 0 rfl, HB1.out.cell 1 rfl, HB1.out.cell 2 rfl, HB1.out.cell 3 rfl, HB1.out.cell 4 rfl⟩)
     obtain ⟨r0, r1, r2, r3, r4, r5, r6⟩ := (show _ ∧ _ ∧ _ ∧ _ ∧ _ ∧ _ ∧ _ from ⟨HBR.out.cell 0 rfl, HBR.out.cell 1 rfl, HBR.out.cell 2 rfl, HBR.out.cell 3 rfl, HBR.out.cell 4 rfl, HBR.out.cell 5 rfl, HBR.out.cell 6 rfl⟩)
     go_upto_region 2 with (first
       | (go_at_call 102; refine (HRS.out _ HBL.out).mono ?_; rintro _ w4 ⟨V4, rfl, hv4, hb4, hn4⟩
          obtain ⟨A4, n4, c4, B4, q4, d4, X4, xn4, xc4, Y4, yn4, yc4, t4⟩ := V4
          dsimp only at hv4 ⊢
          have HV4 := Lib.hid hv4
          have HN4 := Lib.hid hn4
          have HX4 := Lib.hid hb4
          clear hv4 hb4 hn4 x0 x1 x2 x3 x4 r0 r1 r2 r3 r4 r5 r6))
     have hz4 := HX4.out.size
     have HB14 := Lib.hid (HB1.out.later HX4.out)
     have HBR4 := Lib.hid (HBR.out.later HX4.out)
     have HBZ4 := Lib.hid (HBZ.out.later HX4.out)
     have HA4 := Lib.hid (HA3.out.below HX4.out)
     have HO4 := Lib.hid (HO3.out.same HX4.out (fun k hk => by have := hk.1; omega))
     have HB15 := Lib.hid (HB14.out.more (.cells #[.slice A4 n4 c4, .slice B4 q4 d4, .slice X4 xn4 xc4, .slice Y4 yn4 yc4, .int .i64 t4] 35))
     have HBR5 := Lib.hid (HBR4.out.more (.cells #[.slice A4 n4 c4, .slice B4 q4 d4, .slice X4 xn4 xc4, .slice Y4 yn4 yc4, .int .i64 t4] 35))
     have HBZ5 := Lib.hid (HBZ4.out.more (.cells #[.slice A4 n4 c4, .slice B4 q4 d4, .slice X4 xn4 xc4, .slice Y4 yn4 yc4, .int .i64 t4] 35))
     have HN5 := Lib.hid (Blk.new w4 35 #[.slice A4 n4 c4, .slice B4 q4 d4, .slice X4 xn4 xc4, .slice Y4 yn4 yc4, .int .i64 t4])
     have al5 := (Below.refl w4.heap.size w4).alloc (Nat.le_refl _) (.cells #[.slice A4 n4 c4, .slice B4 q4 d4, .slice X4 xn4 xc4, .slice Y4 yn4 yc4, .int .i64 t4] 35)
     have HV5 := Lib.hid (HV4.out.below al5)
     have HA5 := Lib.hid (HA4.out.below al5)
     have HO5 := Lib.hid (HO4.out.same al5 (fun k hk => by have := hk.1; omega))
     clear al5 HB14 HBR4 HBZ4 HV4 HA4 HO4 HB1 HBR HBZ HA3 HO3 HRS HBL HX4
     generalize w4.alloc (.cells #[.slice A4 n4 c4, .slice B4 q4 d4, .slice X4 xn4 xc4, .slice Y4 yn4 yc4, .int .i64 t4] 35) = w5 at HB15 HBR5 HBZ5 HN5 HV5 HA5 HO5 ⊢
     generalize w4.heap.size = g8 at HN5 hz4 ⊢
     obtain ⟨r0, r1, r2, r3, r4, r5, r6⟩ := (show _ ∧ _ ∧ _ ∧ _ ∧ _ ∧ _ ∧ _ from ⟨HBR5.out.cell 0 rfl, HBR5.out.cell 1 rfl, HBR5.out.cell 2 rfl, HBR5.out.cell 3 rfl, HBR5.out.cell 4 rfl, HBR5.out.cell 5 rfl, HBR5.out.cell 6 rfl⟩)
     go_upto_region 5 with (first
       | (go_at_call 104; refine (HBG.out _).mono ?_; rintro _ w6 ⟨rfl, hb6⟩
          have HX6 := Lib.hid hb6
          have HA6 := Lib.hid (HA5.out.below hb6)
          clear hb6 r0 r1 r2 r3 r4 r5 r6)
       | (go_at_call 103; refine (HFI.out _ HA6.out).mono ?_; rintro _ w7 ⟨rfl, ha7, ho7⟩
          have HA7 := Lib.hid ha7
          have HY7 := Lib.hid ho7
          clear ha7 ho7))
     have HBR6 := Lib.hid (HBR5.out.later HX6.out)
     have HBZ6 := Lib.hid (HBZ5.out.later HX6.out)
     have HN6 := Lib.hid (HN5.out.later HX6.out)
     have HV6 := Lib.hid (HV5.out.below HX6.out)
     have HO6 := Lib.hid (HO5.out.same HX6.out (fun k hk => by have := hk.1; have := HO5.out.size; omega))
     have HBR7 := Lib.hid (Blk.on HBR6.out HY7.out ⟨HBR6.out.lt, by omega⟩)
     have HBZ7 := Lib.hid (Blk.on HBZ6.out HY7.out ⟨HBZ6.out.lt, by omega⟩)
     have HN7 := Lib.hid (Blk.on HN6.out HY7.out ⟨HN6.out.lt, by omega⟩)
     have HV7 := Lib.hid (HV6.out.on HA6.out.blk (thin_an la ln lc _) HY7.out)
     have HO7 := Lib.hid (HO6.out.trans (On.of_on HY7.out (fun k hk => ⟨by have := hk.1; have := HO6.out.size; omega, hk.2⟩)))
     clear HBR6 HBZ6 HN6 HV6 HO6 HA6 HX6 HBR5 HBZ5 HN5 HV5 HA5 HO5 HB15 HFI HBG
     obtain ⟨x0, x1, x2, x3, x4⟩ := (show _ ∧ _ ∧ _ ∧ _ ∧ _ from ⟨HN7.out.cell 0 rfl, HN7.out.cell 1 rfl, HN7.out.cell 2 rfl, HN7.out.cell 3 rfl, HN7.out.cell 4 rfl⟩)
     obtain ⟨r0, r1, r2, r3, r4, r5, r6⟩ := (show _ ∧ _ ∧ _ ∧ _ ∧ _ ∧ _ ∧ _ from ⟨HBR7.out.cell 0 rfl, HBR7.out.cell 1 rfl, HBR7.out.cell 2 rfl, HBR7.out.cell 3 rfl, HBR7.out.cell 4 rfl, HBR7.out.cell 5 rfl, HBR7.out.cell 6 rfl⟩)
     have HZ7 := HBZ7
     have HV8 := Lib.hid (HUN.out _ _ HV7.out)
     dsimp only at HV8
     go_wp2_with (first
       | (go_at_call 105; refine HV8.out.mono ?_; rintro _ w8 ⟨V8, rfl, hv8, hb8, hn8⟩
          obtain ⟨A8, n8, c8, B8, q8, d8, X8, xn8, xc8, Y8, yn8, yc8, t8⟩ := V8
          dsimp only at hv8 ⊢
          have HU8 := Lib.hid hv8
          have HN8 := Lib.hid hn8
          have HZ8 := Lib.hid (HZ7.out.later hb8)
          have HA8 := Lib.hid (HA7.out.below hb8)
          have HO8 := Lib.hid (HO7.out.same hb8 (fun k hk => by have := hk.1; have := HO7.out.size; omega))
          clear hv8 hb8 hn8 x0 x1 x2 x3 x4 r0 r1 r2 r3 r4 r5 r6
          obtain ⟨y0, y1, y2, y3, y4⟩ := (show _ ∧ _ ∧ _ ∧ _ ∧ _ from ⟨HZ8.out.cell 0 rfl, HZ8.out.cell 1 rfl, HZ8.out.cell 2 rfl, HZ8.out.cell 3 rfl, HZ8.out.cell 4 rfl⟩)
          obtain ⟨f0, f1, f2, f3, f4⟩ := (show _ ∧ _ ∧ _ ∧ _ ∧ _ from ⟨HZ8.out.loose 0, HZ8.out.loose 1, HZ8.out.loose 2, HZ8.out.loose 3, HZ8.out.loose 4⟩)))
     have HP := st_put HZ8.out rfl (.slice A8 n8 c8) (.slice B8 q8 d8) (.slice X8 xn8 xc8) (.slice Y8 yn8 yc8) (.int .i64 t8)
     have HPV := sk_zero HU8.out HZ8.out (.slice A8 n8 c8) (.slice B8 q8 d8) (.slice X8 xn8 xc8) (.slice Y8 yn8 yc8) (.int .i64 t8)
     have HPA := HA8.out.st HZ8.out (by omega) (.slice A8 n8 c8) (.slice B8 q8 d8) (.slice X8 xn8 xc8) (.slice Y8 yn8 yc8) (.int .i64 t8)
     have HPO := st_on HO8.out (g := w.heap.size + 1 + 1) (by omega) (.slice A8 n8 c8) (.slice B8 q8 d8) (.slice X8 xn8 xc8) (.slice Y8 yn8 yc8) (.int .i64 t8)
     refine bodyPost_ret (results_st1 (p := 6) (x := 7) (ty := 35) rfl _ _ (w.heap.size + 1 + 1) _ _ (0, 0) _ rfl HP Tryz.underlying35 rfl (by kernel_rfl)) rfl ?_
     exact ⟨⟨A8, n8, c8, B8, q8, d8, X8, xn8, xc8, Y8, yn8, yc8, t8⟩, by rw [HE.out]; rfl, HPV, HPA, HPO, fun p hp hq => HN8.out p (fun b hb => hp b (by have := HO7.out.size; omega)) (HN4.out p (fun b hb => hp b (by omega)) hq)⟩
 · rw [if_neg h1]
   have HE := Lib.hid (show errV E1 = eno E1 by rw [errV, if_neg h1])
   rw [HE.out] at HRS
   clear h1
   go_enter Tryz.func76, Tryz.ntmps76
   go_upto_region 1 with fail
   generalize (((w.alloc (.cells #[.slice A n c, .slice B q d, .slice X xn xc, .slice Y yn yc, .int .i64 t] 35)).alloc (.cells (rqC k o a b m l u) 42)).alloc (.cells st0 35)) = w3 at HB1 HBR HBZ HBL HA3 HO3 ⊢
   have hsz3 : w.heap.size + 1 + 1 < w3.heap.size := HBZ.out.lt
   obtain ⟨x0, x1, x2, x3, x4⟩ := (show _ ∧ _ ∧ _ ∧ _ ∧ _ from ⟨HB1.out.cell 0 rfl, HB1.out.cell 1 rfl, HB1.out.cell 2 rfl, HB1.out.cell 3 rfl, HB1.out.cell 4 rfl⟩)
   obtain ⟨r0, r1, r2, r3, r4, r5, r6⟩ := (show _ ∧ _ ∧ _ ∧ _ ∧ _ ∧ _ ∧ _ from ⟨HBR.out.cell 0 rfl, HBR.out.cell 1 rfl, HBR.out.cell 2 rfl, HBR.out.cell 3 rfl, HBR.out.cell 4 rfl, HBR.out.cell 5 rfl, HBR.out.cell 6 rfl⟩)
   go_upto_region 2 with (first
     | (go_at_call 102; refine (HRS.out _ HBL.out).mono ?_; rintro _ w4 ⟨V4, rfl, hv4, hb4, hn4⟩
        obtain ⟨A4, n4, c4, B4, q4, d4, X4, xn4, xc4, Y4, yn4, yc4, t4⟩ := V4
        dsimp only at hv4 ⊢
        have HV4 := Lib.hid hv4
        have HN4 := Lib.hid hn4
        have HX4 := Lib.hid hb4
        clear hv4 hb4 hn4 x0 x1 x2 x3 x4 r0 r1 r2 r3 r4 r5 r6))
   have hz4 := HX4.out.size
   have HB14 := Lib.hid (HB1.out.later HX4.out)
   have HBR4 := Lib.hid (HBR.out.later HX4.out)
   have HBZ4 := Lib.hid (HBZ.out.later HX4.out)
   have HA4 := Lib.hid (HA3.out.below HX4.out)
   have HO4 := Lib.hid (HO3.out.same HX4.out (fun k hk => by have := hk.1; omega))
   have HB15 := Lib.hid (HB14.out.more (.cells #[.slice A4 n4 c4, .slice B4 q4 d4, .slice X4 xn4 xc4, .slice Y4 yn4 yc4, .int .i64 t4] 35))
   have HBR5 := Lib.hid (HBR4.out.more (.cells #[.slice A4 n4 c4, .slice B4 q4 d4, .slice X4 xn4 xc4, .slice Y4 yn4 yc4, .int .i64 t4] 35))
   have HBZ5 := Lib.hid (HBZ4.out.more (.cells #[.slice A4 n4 c4, .slice B4 q4 d4, .slice X4 xn4 xc4, .slice Y4 yn4 yc4, .int .i64 t4] 35))
   have HN5 := Lib.hid (Blk.new w4 35 #[.slice A4 n4 c4, .slice B4 q4 d4, .slice X4 xn4 xc4, .slice Y4 yn4 yc4, .int .i64 t4])
   have al5 := (Below.refl w4.heap.size w4).alloc (Nat.le_refl _) (.cells #[.slice A4 n4 c4, .slice B4 q4 d4, .slice X4 xn4 xc4, .slice Y4 yn4 yc4, .int .i64 t4] 35)
   have HV5 := Lib.hid (HV4.out.below al5)
   have HA5 := Lib.hid (HA4.out.below al5)
   have HO5 := Lib.hid (HO4.out.same al5 (fun k hk => by have := hk.1; omega))
   clear al5 HB14 HBR4 HBZ4 HV4 HA4 HO4 HB1 HBR HBZ HA3 HO3 HRS HBL HX4
   generalize w4.alloc (.cells #[.slice A4 n4 c4, .slice B4 q4 d4, .slice X4 xn4 xc4, .slice Y4 yn4 yc4, .int .i64 t4] 35) = w5 at HB15 HBR5 HBZ5 HN5 HV5 HA5 HO5 ⊢
   generalize w4.heap.size = g8 at HN5 hz4 ⊢
   obtain ⟨x0, x1, x2, x3, x4⟩ := (show _ ∧ _ ∧ _ ∧ _ ∧ _ from ⟨HB15.out.cell 0 rfl, HB15.out.cell 1 rfl, HB15.out.cell 2 rfl, HB15.out.cell 3 rfl, HB15.out.cell 4 rfl⟩)
   obtain ⟨y0, y1, y2, y3, y4⟩ := (show _ ∧ _ ∧ _ ∧ _ ∧ _ from ⟨HBZ5.out.cell 0 rfl, HBZ5.out.cell 1 rfl, HBZ5.out.cell 2 rfl, HBZ5.out.cell 3 rfl, HBZ5.out.cell 4 rfl⟩)
   obtain ⟨f0, f1, f2, f3, f4⟩ := (show _ ∧ _ ∧ _ ∧ _ ∧ _ from ⟨HBZ5.out.loose 0, HBZ5.out.loose 1, HBZ5.out.loose 2, HBZ5.out.loose 3, HBZ5.out.loose 4⟩)
   go_wp2
   have HPB5 := Lib.hid (HV.out.on HA.out.blk (thin_an la ln lc _) HO5.out)
   have HP := st_put HBZ5.out rfl (.slice A n c) (.slice B q d) (.slice X xn xc) (.slice Y yn yc) (.int .i64 t)
   have HPV := sk_zero HPB5.out HBZ5.out (.slice A n c) (.slice B q d) (.slice X xn xc) (.slice Y yn yc) (.int .i64 t)
   have HPA := HA5.out.st HBZ5.out (by omega) (.slice A n c) (.slice B q d) (.slice X xn xc) (.slice Y yn yc) (.int .i64 t)
   have HPO := st_on HO5.out (g := w.heap.size + 1 + 1) (by omega) (.slice A n c) (.slice B q d) (.slice X xn xc) (.slice Y yn yc) (.int .i64 t)
   refine bodyPost_ret (results_st1 (p := 6) (x := 7) (ty := 35) rfl _ _ (w.heap.size + 1 + 1) _ _ (0, 0) _ rfl HP Tryz.underlying35 rfl (by kernel_rfl)) rfl ?_
   exact ⟨⟨A, n, c, B, q, d, X, xn, xc, Y, yn, yc, t⟩, by rw [HE.out]; rfl, HPV, HPA, HPO, fun p _ hq => hq⟩
end Go.Proofs.YteifgmdaggiaaaaGreatDoor
