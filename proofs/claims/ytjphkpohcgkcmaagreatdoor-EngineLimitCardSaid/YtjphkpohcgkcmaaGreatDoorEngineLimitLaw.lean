/-
  The law EngineLimit: there are sixteen sagas at most at one time.
-/
import Derived.Test.YtjphkpohcgkcmaaGreatDoorEngAwake
import Derived.Test.YtjphkpohcgkcmaaGreatDoorEngSame
import Derived.Test.YtjphkpohcgkcmaaGreatDoorEngLimPlain
import Derived.Test.YtjphkpohcgkcmaaGreatDoorGrA
namespace Go.Proofs.YtjphkpohcgkcmaaGreatDoor
open Go Go.RowKit
set_option linter.unusedVariables false

theorem lit90 (w : World) : Rd .u32 (w.alloc (.cells #[.int .u32 90000, .int .u32 90000, .int .u32 90000, .int .u32 90000] 83)) (some ⟨w.heap.size, 0, none⟩) 4 (ints [90000, 90000, 90000, 90000]) := by
  refine ⟨rfl, fun _ => ⟨_, rfl, fun j hj => ?_⟩⟩
  have hb := Blk.new w 83 #[.int .u32 90000, .int .u32 90000, .int .u32 90000, .int .u32 90000]
  have hadd : (⟨w.heap.size, 0, none⟩ : Addr).add j = ⟨w.heap.size, j, none⟩ := by unfold Addr.add; split <;> simp_all
  rw [hadd]
  match j, hj with
  | 0, _ => exact hb.cell 0 rfl
  | 1, _ => exact hb.cell 1 rfl
  | 2, _ => exact hb.cell 2 rfl
  | 3, _ => exact hb.cell 3 rfl

set_option maxRecDepth 100000 in
set_option maxHeartbeats 4000000 in
theorem engineLimit_walk (w : World) (y : Int) (hy : (Lit.int .u8 y).wf = true) (z : Int) (hz : (Lit.int .u8 z).wf = true) (hh : HasErr w) :
    Calls Tryz.prog 8 #[.int .u8 y, .int .u8 z] w fun e w' => e = .returned (.bool true) ∧ Below w.heap.size w w' := by
  obtain ⟨x, rfl, hx⟩ := u8_nat hy
  obtain ⟨am, rfl, ham⟩ := u8_nat hz
  obtain ⟨j8, hj8⟩ : ∃ k : Nat, x % 12 = k := ⟨_, rfl⟩
  have hk1 : (x : Int) % 12 = (j8 : Int) := by omega
  have hk2 : (x : Int).tmod 12 = (j8 : Int) := by rw [Int.tmod_eq_emod_of_nonneg (by omega)]; exact hk1
  have hk3 : j8 < 12 := by omega
  obtain ⟨m, hm⟩ : ∃ m, m = min (10 + j8) 16 := ⟨_, rfl⟩
  have hmin := fun W' => min2_ok (P := Tryz.prog) (10 + j8) 16 m (10 + (j8 : Int)) 16 (by omega) rfl hm W' #[3, 3] 3
  have hm1 : m ≤ 16 := by omega
  have HM := Lib.hid hm
  clear hm
  have HAW := Lib.hid (fun W (hW : Below w.heap.size w W) => eawake_ok W (hh.below hW))
  have HH := Lib.hid hh
  have HST := Lib.hid (fun W B (hr : Rd .u32 W (some ⟨B, 0, none⟩) 4 (ints [90000, 90000, 90000, 90000])) => state_is (w0 := W) none (some ⟨B, 0, none⟩) none 0 0 4 4 0 0 [] [90000, 90000, 90000, 90000] Rd.nil hr (fun x hx => by cases hx) (fun x hx => by simp at hx; omega) (by decide) (Nat.le_refl _) (Nat.zero_le _) none 0 0 [] rfl 0 (by decide) (by decide) W (Below.refl _ _) RdS.nil (fun j z h => by simp at h))
  have HDO := Lib.hid (fun W V (i j : Nat) (hi : i ≤ 16) (hv : SkAt W V (lX i am).T (lX i am).sl (lX i am).kl) (hb : Below w.heap.size w W) => edo_full V (lX i am).T (lX i am).sl (lX i am).kl ⟨0, lr j am, 0, false⟩ W hv (lX_fits i am hi ham) (by show (lK i am).length ≤ _; rw [lK_len]; omega) (HH.out.below hb) (fun h => by cases h))
  have HSA := Lib.hid (fun W V V' (hv : SkAt W V (lX 16 am).T (lX 16 am).sl (lX 16 am).kl) (hv' : SkAt W V' (lX 16 am).T (lX 16 am).sl (lX 16 am).kl) => esame_yes V V' _ _ _ W hv hv' (by rw [show (lX 16 am).T = lT 16 am from rfl, lT_len]; decide) (Nat.zero_le _) (by show (lK 16 am).length ≤ _; rw [lK_len]; decide) (by show (lS 16 am).length ≤ _; rw [lS_len]; decide))
  have hwa : wrap64 (1 + (am : Int)) = 1 + (am : Int) := w64 (by omega) (by omega)
  clear hh hj8
  unfold EgB at HDO
  unfold Sv.val Sv.cells at HST HDO
  unfold BoolRes Sv.val Sv.cells at HSA
  unfold Ev.cells lr at HDO
  (try dsimp only at HST); (try dsimp only at HDO)
  go_enter Tryz.func8, Tryz.ntmps8
  go_wp2_with fail
  refine (HAW.out _ (Below.refl _ _)).mono ?_
  rintro _ wa ⟨rfl, hba⟩
  have HWA := Lib.hid hba
  clear hba HAW
  go_wp2_with fail
  refine (HST.out _ _ (lit90 wa)).mono ?_
  rintro _ w1 ⟨V1, s, rfl, hv1, hm1', hb1, hs1⟩
  have hs : s = lb0 := hs1 trivial
  subst hs
  have HL_1 := Lib.hid ((HWA.out.alloc HWA.out.size (.cells #[.int .u32 90000, .int .u32 90000, .int .u32 90000, .int .u32 90000] 83)).trans (hb1.mono (by have := HWA.out.size; simp; omega)))
  have hv1' := hv1.sk
  rw [← lT_0 am] at hv1'
  have HV_1 := Lib.hid (show SkAt w1 V1 (lX 0 am).T (lX 0 am).sl (lX 0 am).kl from hv1')
  obtain ⟨A1, n1, c1, B1, q1, d1, X1, xn1, xc1, Y1, yn1, yc1, t1⟩ := V1
  dsimp only at HV_1 ⊢
  clear hv1 hv1' hm1' hb1 hs1 HST
  have hgw : w.heap.size ≤ w1.heap.size := HL_1.out.size
  go_upto_region 4 with fail
  have al := (Below.refl w1.heap.size w1).alloc (Nat.le_refl _) (.cells #[.slice A1 n1 c1, .slice B1 q1 d1, .slice X1 xn1 xc1, .slice Y1 yn1 yc1, .int .i64 t1] 34)
  have nb0 := Blk.new w1 34 #[.slice A1 n1 c1, .slice B1 q1 d1, .slice X1 xn1 xc1, .slice Y1 yn1 yc1, .int .i64 t1]
  have HL_2 := Lib.hid (HL_1.out.trans (al.mono HL_1.out.size))
  have HV_2 := Lib.hid (HV_1.out.below al)
  clear al HL_1 HV_1
  have G_2 := Lib.hid (nb0)
  clear nb0
  generalize w1.alloc (.cells #[.slice A1 n1 c1, .slice B1 q1 d1, .slice X1 xn1 xc1, .slice Y1 yn1 yc1, .int .i64 t1] 34) = w2 at HL_2 HV_2 G_2 ⊢
  generalize w1.heap.size = g at G_2 hgw ⊢
  go_wp2
  go_loopw [7] (fun iv wr => ∃ (i : Nat) (V : Sv), i ≤ 10 + j8 ∧ iv = .int .i64 (i : Int) ∧ Blk wr g 34 V.cells ∧ SkAt wr V (lX (min i 16) am).T (lX (min i 16) am).sl (lX (min i 16) am).kl ∧ Below w.heap.size w wr) (fun iv _ => 10 + j8 - (intOf iv).toNat)
  case atStart => exact ⟨0, ⟨A1, n1, c1, B1, q1, d1, X1, xn1, xc1, Y1, yn1, yc1, t1⟩, Nat.zero_le _, rfl, G_2.out, HV_2.out, HL_2.out⟩
  case round =>
    obtain ⟨i, V, hi, rfl, hG, hV, hB⟩ := hrel
    obtain ⟨A3, n3, c3, B3, q3, d3, X3, xn3, xc3, Y3, yn3, yc3, t3⟩ := V
    unfold Sv.cells at hG
    dsimp only at hG
    have G_0 := Lib.hid hG
    have HV_0 := Lib.hid hV
    have HL_0 := Lib.hid hB
    clear hG hV hB HL_2 HV_2 G_2
    by_cases hlt : i < 10 + j8
    · have q0 := decide_eq_true (show (i : Int) < 10 + (j8 : Int) by omega)
      by_cases h16 : i < 16
      · have hmi : min i 16 = i := by omega
        rw [hmi] at HV_0
        have q1 := decide_eq_true (show (i : Int) < 16 by omega)
        have q2 := decide_eq_false (show ¬ (16 : Int) ≤ (i : Int) by omega)
        have HD := Lib.hid (fun W V (hv : SkAt W V (lX i am).T (lX i am).sl (lX i am).kl) (hb : Below w.heap.size w W) => HDO.out W V i i (by omega) hv hb)
        have hgo := lim_go i am h16 ham
        unfold lr at hgo
        rw [hgo] at HD
        clear hgo
        have e1 : ((1 + am : Nat) : Int) = 1 + (am : Int) := by omega
        simp only [e1] at HD
        clear e1
        (try dsimp only at HD)
        go_upto_region 9 with fail
        have hgr : g < wr.heap.size := G_0.out.lt
        have al := (Below.refl wr.heap.size wr).alloc (Nat.le_refl _) (.cells #[.int .i64 (i : Int), .int .i64 2, .int .i64 9, .int .i64 12, .int .i64 (1 + (am : Int)), .int .i64 1, .int .i64 0] 42)
        have nb0 := Blk.new wr 42 #[.int .i64 (i : Int), .int .i64 2, .int .i64 9, .int .i64 12, .int .i64 (1 + (am : Int)), .int .i64 1, .int .i64 0]
        have HL_1 := Lib.hid (HL_0.out.trans (al.mono HL_0.out.size))
        have HV_1 := Lib.hid (HV_0.out.below al)
        have G_1 := Lib.hid (G_0.out.later al)
        clear al HL_0 HV_0 G_0
        have R_1 := Lib.hid (nb0)
        clear nb0
        generalize wr.alloc (.cells #[.int .i64 (i : Int), .int .i64 2, .int .i64 9, .int .i64 12, .int .i64 (1 + (am : Int)), .int .i64 1, .int .i64 0] 42) = wb at HL_1 HV_1 G_1 R_1 ⊢
        have D1 := Lib.hid (HD.out wb ⟨A3, n3, c3, B3, q3, d3, X3, xn3, xc3, Y3, yn3, yc3, t3⟩ HV_1.out HL_1.out)
        (try dsimp only at D1)
        obtain ⟨x0, x1, x2, x3, x4⟩ := (show _ ∧ _ ∧ _ ∧ _ ∧ _ from ⟨G_1.out.cell 0 rfl, G_1.out.cell 1 rfl, G_1.out.cell 2 rfl, G_1.out.cell 3 rfl, G_1.out.cell 4 rfl⟩)
        obtain ⟨r0, r1, r2, r3, r4, r5, r6⟩ := (show _ ∧ _ ∧ _ ∧ _ ∧ _ ∧ _ ∧ _ from ⟨R_1.out.cell 0 rfl, R_1.out.cell 1 rfl, R_1.out.cell 2 rfl, R_1.out.cell 3 rfl, R_1.out.cell 4 rfl, R_1.out.cell 5 rfl, R_1.out.cell 6 rfl⟩)
        go_upto_region 10 with (first
          | (go_at_call 16; refine D1.out.mono ?_; rintro _ we ⟨V, rfl, hv, hb, -⟩
             obtain ⟨A4, n4, c4, B4, q4, d4, X4, xn4, xc4, Y4, yn4, yc4, t4⟩ := V
             dsimp only at hv ⊢
             have HVa := Lib.hid hv
             have HXe := Lib.hid hb
             clear hv hb x0 x1 x2 x3 x4 r0 r1 r2 r3 r4 r5 r6))
        clear R_1
        have HL_2 := Lib.hid (HL_1.out.trans (HXe.out.mono HL_1.out.size))
        have HV_2 := Lib.hid (HV_1.out.below HXe.out)
        have G_2 := Lib.hid (G_1.out.later HXe.out)
        clear HL_1 HV_1 G_1
        have HP_2 := Lib.hid (HVa.out)
        clear HVa HXe D1 HD
        have hge : g < we.heap.size := G_2.out.lt
        have al := (Below.refl we.heap.size we).alloc (Nat.le_refl _) (.cells #[.slice A4 n4 c4, .slice B4 q4 d4, .slice X4 xn4 xc4, .slice Y4 yn4 yc4, .int .i64 t4] 34)
        replace al := al.alloc (by simp; try omega) (.cells #[.int .i64 10, .int .i64 0] 50)
        have nb0 := (Blk.new we 34 #[.slice A4 n4 c4, .slice B4 q4 d4, .slice X4 xn4 xc4, .slice Y4 yn4 yc4, .int .i64 t4]).more (.cells #[.int .i64 10, .int .i64 0] 50)
        have nb1 := Blk.new (we.alloc (.cells #[.slice A4 n4 c4, .slice B4 q4 d4, .slice X4 xn4 xc4, .slice Y4 yn4 yc4, .int .i64 t4] 34)) 50 #[.int .i64 10, .int .i64 0]
        rw [alloc_size] at nb1
        have HL_3 := Lib.hid (HL_2.out.trans (al.mono HL_2.out.size))
        have HV_3 := Lib.hid (HV_2.out.below al)
        have G_3 := Lib.hid (G_2.out.later al)
        have HP_3 := Lib.hid (HP_2.out.below al)
        clear al HL_2 HV_2 G_2 HP_2
        have S1_3 := Lib.hid (nb0)
        have P1_3 := Lib.hid (nb1)
        clear nb0 nb1
        generalize (we.alloc (.cells #[.slice A4 n4 c4, .slice B4 q4 d4, .slice X4 xn4 xc4, .slice Y4 yn4 yc4, .int .i64 t4] 34)).alloc (.cells #[.int .i64 10, .int .i64 0] 50) = wf at HL_3 HV_3 G_3 HP_3 S1_3 P1_3 ⊢
        generalize we.heap.size = g9 at S1_3 P1_3 hge ⊢
        have hgs : g ≠ g9 := by omega
        obtain ⟨p0, p1⟩ := (show _ ∧ _ from ⟨P1_3.out.cell 0 rfl, P1_3.out.cell 1 rfl⟩)
        obtain ⟨x0, x1, x2, x3, x4⟩ := (show _ ∧ _ ∧ _ ∧ _ ∧ _ from ⟨S1_3.out.cell 0 rfl, S1_3.out.cell 1 rfl, S1_3.out.cell 2 rfl, S1_3.out.cell 3 rfl, S1_3.out.cell 4 rfl⟩)
        obtain ⟨y0, y1, y2, y3, y4⟩ := (show _ ∧ _ ∧ _ ∧ _ ∧ _ from ⟨G_3.out.cell 0 rfl, G_3.out.cell 1 rfl, G_3.out.cell 2 rfl, G_3.out.cell 3 rfl, G_3.out.cell 4 rfl⟩)
        obtain ⟨f0, f1, f2, f3, f4⟩ := (show _ ∧ _ ∧ _ ∧ _ ∧ _ from ⟨G_3.out.loose 0, G_3.out.loose 1, G_3.out.loose 2, G_3.out.loose 3, G_3.out.loose 4⟩)
        go_wp2
        go_roundw
        · exact ⟨i + 1, ⟨A4, n4, c4, B4, q4, d4, X4, xn4, xc4, Y4, yn4, yc4, t4⟩, by omega, by first | rfl | (congr 1; omega), st_put G_3.out rfl (.slice A4 n4 c4) (.slice B4 q4 d4) (.slice X4 xn4 xc4) (.slice Y4 yn4 yc4) (.int .i64 t4), by rw [show min (i + 1) 16 = i + 1 by omega]; exact sk_put (V0 := ⟨A3, n3, c3, B3, q3, d3, X3, xn3, xc3, Y3, yn3, yc3, t3⟩) HP_3.out G_3.out (.slice A4 n4 c4) (.slice B4 q4 d4) (.slice X4 xn4 xc4) (.slice Y4 yn4 yc4) (.int .i64 t4), st_below HL_3.out hgw (.slice A4 n4 c4) (.slice B4 q4 d4) (.slice X4 xn4 xc4) (.slice Y4 yn4 yc4) (.int .i64 t4)⟩
        · simp [intOf]; omega
      · have hmi : min i 16 = 16 := by omega
        rw [hmi] at HV_0
        have q1 := decide_eq_false (show ¬ (i : Int) < 16 by omega)
        have q2 := decide_eq_true (show (16 : Int) ≤ (i : Int) by omega)
        have HD := Lib.hid (fun W V (hv : SkAt W V (lX 16 am).T (lX 16 am).sl (lX 16 am).kl) (hb : Below w.heap.size w W) => HDO.out W V 16 i (by omega) hv hb)
        have hgo := lim_stop i am (by omega) (by omega) ham
        unfold lr at hgo
        rw [hgo] at HD
        clear hgo
        have e1 : ((1 + am : Nat) : Int) = 1 + (am : Int) := by omega
        simp only [e1] at HD
        clear e1
        (try dsimp only at HD)
        go_upto_region 9 with fail
        have hgr : g < wr.heap.size := G_0.out.lt
        have al := (Below.refl wr.heap.size wr).alloc (Nat.le_refl _) (.cells #[.int .i64 (i : Int), .int .i64 2, .int .i64 9, .int .i64 12, .int .i64 (1 + (am : Int)), .int .i64 1, .int .i64 0] 42)
        have nb0 := Blk.new wr 42 #[.int .i64 (i : Int), .int .i64 2, .int .i64 9, .int .i64 12, .int .i64 (1 + (am : Int)), .int .i64 1, .int .i64 0]
        have HL_1 := Lib.hid (HL_0.out.trans (al.mono HL_0.out.size))
        have HV_1 := Lib.hid (HV_0.out.below al)
        have G_1 := Lib.hid (G_0.out.later al)
        clear al HL_0 HV_0 G_0
        have R_1 := Lib.hid (nb0)
        clear nb0
        generalize wr.alloc (.cells #[.int .i64 (i : Int), .int .i64 2, .int .i64 9, .int .i64 12, .int .i64 (1 + (am : Int)), .int .i64 1, .int .i64 0] 42) = wb at HL_1 HV_1 G_1 R_1 ⊢
        have D1 := Lib.hid (HD.out wb ⟨A3, n3, c3, B3, q3, d3, X3, xn3, xc3, Y3, yn3, yc3, t3⟩ HV_1.out HL_1.out)
        (try dsimp only at D1)
        obtain ⟨x0, x1, x2, x3, x4⟩ := (show _ ∧ _ ∧ _ ∧ _ ∧ _ from ⟨G_1.out.cell 0 rfl, G_1.out.cell 1 rfl, G_1.out.cell 2 rfl, G_1.out.cell 3 rfl, G_1.out.cell 4 rfl⟩)
        obtain ⟨r0, r1, r2, r3, r4, r5, r6⟩ := (show _ ∧ _ ∧ _ ∧ _ ∧ _ ∧ _ ∧ _ from ⟨R_1.out.cell 0 rfl, R_1.out.cell 1 rfl, R_1.out.cell 2 rfl, R_1.out.cell 3 rfl, R_1.out.cell 4 rfl, R_1.out.cell 5 rfl, R_1.out.cell 6 rfl⟩)
        go_upto_region 10 with (first
          | (go_at_call 16; refine D1.out.mono ?_; rintro _ we ⟨V, rfl, hv, hb, -⟩
             obtain ⟨A4, n4, c4, B4, q4, d4, X4, xn4, xc4, Y4, yn4, yc4, t4⟩ := V
             dsimp only at hv ⊢
             have HVa := Lib.hid hv
             have HXe := Lib.hid hb
             clear hv hb x0 x1 x2 x3 x4 r0 r1 r2 r3 r4 r5 r6))
        clear R_1
        have HL_2 := Lib.hid (HL_1.out.trans (HXe.out.mono HL_1.out.size))
        have HV_2 := Lib.hid (HV_1.out.below HXe.out)
        have G_2 := Lib.hid (G_1.out.later HXe.out)
        clear HL_1 HV_1 G_1
        have HP_2 := Lib.hid (HVa.out)
        clear HVa HXe D1 HD
        have hge : g < we.heap.size := G_2.out.lt
        have al := (Below.refl we.heap.size we).alloc (Nat.le_refl _) (.cells #[.slice A4 n4 c4, .slice B4 q4 d4, .slice X4 xn4 xc4, .slice Y4 yn4 yc4, .int .i64 t4] 34)
        replace al := al.alloc (by simp; try omega) (.cells #[.int .i64 7, .int .i64 0] 50)
        have nb0 := (Blk.new we 34 #[.slice A4 n4 c4, .slice B4 q4 d4, .slice X4 xn4 xc4, .slice Y4 yn4 yc4, .int .i64 t4]).more (.cells #[.int .i64 7, .int .i64 0] 50)
        have nb1 := Blk.new (we.alloc (.cells #[.slice A4 n4 c4, .slice B4 q4 d4, .slice X4 xn4 xc4, .slice Y4 yn4 yc4, .int .i64 t4] 34)) 50 #[.int .i64 7, .int .i64 0]
        rw [alloc_size] at nb1
        have HL_3 := Lib.hid (HL_2.out.trans (al.mono HL_2.out.size))
        have HV_3 := Lib.hid (HV_2.out.below al)
        have G_3 := Lib.hid (G_2.out.later al)
        have HP_3 := Lib.hid (HP_2.out.below al)
        clear al HL_2 HV_2 G_2 HP_2
        have S1_3 := Lib.hid (nb0)
        have P1_3 := Lib.hid (nb1)
        clear nb0 nb1
        generalize (we.alloc (.cells #[.slice A4 n4 c4, .slice B4 q4 d4, .slice X4 xn4 xc4, .slice Y4 yn4 yc4, .int .i64 t4] 34)).alloc (.cells #[.int .i64 7, .int .i64 0] 50) = wf at HL_3 HV_3 G_3 HP_3 S1_3 P1_3 ⊢
        generalize we.heap.size = g9 at S1_3 P1_3 hge ⊢
        have hgs : g ≠ g9 := by omega
        obtain ⟨p0, p1⟩ := (show _ ∧ _ from ⟨P1_3.out.cell 0 rfl, P1_3.out.cell 1 rfl⟩)
        obtain ⟨x0, x1, x2, x3, x4⟩ := (show _ ∧ _ ∧ _ ∧ _ ∧ _ from ⟨S1_3.out.cell 0 rfl, S1_3.out.cell 1 rfl, S1_3.out.cell 2 rfl, S1_3.out.cell 3 rfl, S1_3.out.cell 4 rfl⟩)
        obtain ⟨y0, y1, y2, y3, y4⟩ := (show _ ∧ _ ∧ _ ∧ _ ∧ _ from ⟨G_3.out.cell 0 rfl, G_3.out.cell 1 rfl, G_3.out.cell 2 rfl, G_3.out.cell 3 rfl, G_3.out.cell 4 rfl⟩)
        obtain ⟨f0, f1, f2, f3, f4⟩ := (show _ ∧ _ ∧ _ ∧ _ ∧ _ from ⟨G_3.out.loose 0, G_3.out.loose 1, G_3.out.loose 2, G_3.out.loose 3, G_3.out.loose 4⟩)
        have HS := Lib.hid (HSA.out wf ⟨A3, n3, c3, B3, q3, d3, X3, xn3, xc3, Y3, yn3, yc3, t3⟩ ⟨A4, n4, c4, B4, q4, d4, X4, xn4, xc4, Y4, yn4, yc4, t4⟩ HV_3.out HP_3.out)
        dsimp only at HS
        go_upto_region 12 with (first
          | (go_at_call 24; refine HS.out.mono ?_; rintro _ wg ⟨rfl, hbg⟩
             have HXg := Lib.hid hbg
             clear hbg x0 x1 x2 x3 x4 y0 y1 y2 y3 y4 f0 f1 f2 f3 f4 p0 p1))
        clear HS
        have HL_4 := Lib.hid (HL_3.out.trans (HXg.out.mono HL_3.out.size))
        have HV_4 := Lib.hid (HV_3.out.below HXg.out)
        have G_4 := Lib.hid (G_3.out.later HXg.out)
        have HP_4 := Lib.hid (HP_3.out.below HXg.out)
        have S1_4 := Lib.hid (S1_3.out.later HXg.out)
        have P1_4 := Lib.hid (P1_3.out.later HXg.out)
        clear HL_3 HV_3 G_3 HP_3 S1_3 P1_3
        clear HXg
        obtain ⟨x0, x1, x2, x3, x4⟩ := (show _ ∧ _ ∧ _ ∧ _ ∧ _ from ⟨S1_4.out.cell 0 rfl, S1_4.out.cell 1 rfl, S1_4.out.cell 2 rfl, S1_4.out.cell 3 rfl, S1_4.out.cell 4 rfl⟩)
        obtain ⟨y0, y1, y2, y3, y4⟩ := (show _ ∧ _ ∧ _ ∧ _ ∧ _ from ⟨G_4.out.cell 0 rfl, G_4.out.cell 1 rfl, G_4.out.cell 2 rfl, G_4.out.cell 3 rfl, G_4.out.cell 4 rfl⟩)
        obtain ⟨f0, f1, f2, f3, f4⟩ := (show _ ∧ _ ∧ _ ∧ _ ∧ _ from ⟨G_4.out.loose 0, G_4.out.loose 1, G_4.out.loose 2, G_4.out.loose 3, G_4.out.loose 4⟩)
        go_wp2
        go_roundw
        · exact ⟨i + 1, ⟨A4, n4, c4, B4, q4, d4, X4, xn4, xc4, Y4, yn4, yc4, t4⟩, by omega, by first | rfl | (congr 1; omega), st_put G_4.out rfl (.slice A4 n4 c4) (.slice B4 q4 d4) (.slice X4 xn4 xc4) (.slice Y4 yn4 yc4) (.int .i64 t4), by rw [show min (i + 1) 16 = 16 by omega]; exact sk_put (V0 := ⟨A3, n3, c3, B3, q3, d3, X3, xn3, xc3, Y3, yn3, yc3, t3⟩) HP_4.out G_4.out (.slice A4 n4 c4) (.slice B4 q4 d4) (.slice X4 xn4 xc4) (.slice Y4 yn4 yc4) (.int .i64 t4), st_below HL_4.out hgw (.slice A4 n4 c4) (.slice B4 q4 d4) (.slice X4 xn4 xc4) (.slice Y4 yn4 yc4) (.int .i64 t4)⟩
        · simp [intOf]; omega
    · have q0 := decide_eq_false (show ¬ (i : Int) < 10 + (j8 : Int) by omega)
      have hmi : min i 16 = m := by have := HM.out; omega
      rw [hmi] at HV_0
      have hxn : m = xn3 := by have h := HV_0.out.xn; dsimp only at h; rw [← h]; exact (lS_len m am).symm
      have hyn : m = yn3 := by have h := HV_0.out.yn; dsimp only at h; rw [← h]; exact (lK_len m am).symm
      have hnn : n3 = 15 := by have h := HV_0.out.n; dsimp only at h; rw [← h]; exact lT_len m am
      subst hxn hyn hnn
      obtain ⟨ad, ea, hat⟩ := HV_0.out.accs.at_ (lT_9 m am)
      dsimp only at ea
      subst ea
      have hmul : (m : Int) * (1 + (am : Int)) = ((m * (1 + am) : Nat) : Int) := by simp
      have hml : m * (1 + am) ≤ 16 * 256 := Nat.mul_le_mul hm1 (by omega)
      have hwm : wrap64 ((m : Int) * (1 + (am : Int))) = (m : Int) * (1 + (am : Int)) := by rw [hmul]; exact w64 (by omega) (by omega)
      have k2 : wr.cell? ⟨ad.block, ad.off + 27 + 2, none⟩ = some (.int .i64 ((m : Int) * (1 + (am : Int)))) := by rw [hmul]; have k := hat.c2; simpa [Addr.add] using k
      obtain ⟨x0, x1, x2, x3, x4⟩ := (show _ ∧ _ ∧ _ ∧ _ ∧ _ from ⟨G_0.out.cell 0 rfl, G_0.out.cell 1 rfl, G_0.out.cell 2 rfl, G_0.out.cell 3 rfl, G_0.out.cell 4 rfl⟩)
      clear hat hmul hml hmi
      go_wp2
      go_ret
      exact ⟨rfl, HL_0.out⟩
end Go.Proofs.YtjphkpohcgkcmaaGreatDoor
