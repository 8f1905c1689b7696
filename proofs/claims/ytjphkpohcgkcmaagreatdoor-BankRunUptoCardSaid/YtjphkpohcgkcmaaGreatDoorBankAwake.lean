/-
  The document's example of layer 16.
-/
import Derived.Test.YtjphkpohcgkcmaaGreatDoorBankSame
import Derived.Test.YtjphkpohcgkcmaaGreatDoorOpsState
namespace Go.Proofs.YtjphkpohcgkcmaaGreatDoor
open Go Go.RowKit
set_option linter.unusedVariables false

def rw1 : Rq := ⟨1, 2, 9, 12, 5, 1, 0⟩
def sw0 : St := ⟨bookTo (curs6 [] 0) [500, 500, 500, 500] [] 6, [], 0⟩
def bw1 : Bo := bkO sw0 [] rw1 [false, false, false, false, true]
def bw2 : Bo := bkO bw1.T bw1.kl rw1 []
theorem bw1_is : bw1.E = 9 ∧ bw1.I = 0 ∧ bw1.n = 4 ∧ bw1.kl.length = 1 := ⟨by kernel_rfl, by kernel_rfl, by kernel_rfl, by kernel_rfl⟩
theorem bw2_is : bw2.E = 9 ∧ bw2.I = 0 ∧ bw2.n = 0 := ⟨by kernel_rfl, by kernel_rfl, by kernel_rfl⟩
theorem sw0_fits : Fits sw0 [] [] := ⟨by kernel_rfl, by decide, by decide, by decide⟩
theorem bw1_right : rightB bw1.T.acs = true := by kernel_rfl
theorem bw1_pys : bw1.T.pys.length = 0 := by kernel_rfl
theorem bw1_fits : Fits bw1.T [] bw1.kl := ⟨bw1_right, by rw [bw1_pys]; decide, by decide, by rw [bw1_is.2.2.2]; decide⟩
theorem lit4 (w : World) : Rd .u32 (w.alloc (.cells #[.int .u32 500, .int .u32 500, .int .u32 500, .int .u32 500] 83)) (some ⟨w.heap.size, 0, none⟩) 4 (ints [500, 500, 500, 500]) := by
  refine ⟨rfl, fun _ => ⟨_, rfl, fun j hj => ?_⟩⟩
  have hb := Blk.new w 83 #[.int .u32 500, .int .u32 500, .int .u32 500, .int .u32 500]
  have hadd : (⟨w.heap.size, 0, none⟩ : Addr).add j = ⟨w.heap.size, j, none⟩ := by unfold Addr.add; split <;> simp_all
  rw [hadd]
  match j, hj with
  | 0, _ => exact hb.cell 0 rfl
  | 1, _ => exact hb.cell 1 rfl
  | 2, _ => exact hb.cell 2 rfl
  | 3, _ => exact hb.cell 3 rfl
theorem legs5 (w : World) : RdS flags (w.alloc (.cells #[.bool false, .bool false, .bool false, .bool false, .bool true] 4)) (some ⟨w.heap.size, 0, none⟩) [false, false, false, false, true] := by
  have h := (OwnS.lit (S := flags) w [false, false, false, false, true] w.heap.size (by decide) (Nat.le_refl _) #[.bool false, .bool false, .bool false, .bool false, .bool true] rfl).rd
  exact h

set_option maxRecDepth 100000 in
set_option maxHeartbeats 1000000 in
theorem bawake_ok (w : World) (hh : HasErr w) : Calls Tryz.prog 9 #[] w fun e w' => e = .returned (.bool true) ∧ Below w.heap.size w w' := by
  have HH := Lib.hid hh
  have HST := Lib.hid (fun W (hr : Rd .u32 W (some ⟨w.heap.size, 0, none⟩) 4 (ints [500, 500, 500, 500])) => state_is (w0 := W) none (some ⟨w.heap.size, 0, none⟩) none 0 0 4 4 0 0 [] [500, 500, 500, 500] Rd.nil hr (fun x hx => by cases hx) (fun x hx => by simp at hx; omega) (by decide) (Nat.le_refl _) (Nat.zero_le _) none 0 0 [] rfl 0 (by decide) (by decide) W (Below.refl _ _) RdS.nil (fun j z h => by simp at h))
  have HD1 := Lib.hid (fun V W la (hv : SkAt W V sw0 [] []) (hb : Below w.heap.size w W) (hl : RdS flags W la [false, false, false, false, true]) => bdo_any V sw0 [] [] rw1 W la 5 5 [false, false, false, false, true] hv sw0_fits (HH.out.below hb) hl rfl (by decide) (by decide))
  have HD2 := Lib.hid (fun V W (hv : SkAt W V bw1.T [] bw1.kl) (hb : Below w.heap.size w W) => bdo_any V bw1.T [] bw1.kl rw1 W none 0 0 [] hv bw1_fits (HH.out.below hb) RdS.nil rfl (by decide) (by rw [bw1_is.2.2.2]; decide))
  rw [show bkO sw0 [] rw1 [false, false, false, false, true] = bw1 from rfl] at HD1
  rw [show bkO bw1.T bw1.kl rw1 [] = bw2 from rfl] at HD2
  unfold BkRes at HD1 HD2
  rw [bw1_is.1, bw1_is.2.1, bw1_is.2.2.1] at HD1
  rw [bw2_is.1, bw2_is.2.1, bw2_is.2.2] at HD2
  have HK1 := Lib.hid bw1_is.2.2.2
  generalize bw1 = b1 at HD1 HD2 HK1
  generalize bw2 = b2 at HD2
  unfold Rq.val rw1 at HD1
  unfold Rq.val rw1 at HD2
  unfold Sv.val Sv.cells at HST HD1 HD2
  dsimp only at HST HD1 HD2
  clear hh
  go_enter Tryz.func9, Tryz.ntmps9
  go_wp2_with fail
  refine (HST.out _ (lit4 w)).mono ?_
  rintro _ w1 ⟨V1, s, rfl, hv1, hm1, hb1, hs1⟩
  have hs : s = sw0 := hs1 trivial
  subst hs
  have HV1 := Lib.hid hv1.sk
  have HL1 := Lib.hid (((Below.refl w.heap.size w).alloc (Nat.le_refl _) (.cells #[.int .u32 500, .int .u32 500, .int .u32 500, .int .u32 500] 83)).trans (hb1.mono (by simp)))
  obtain ⟨A1, n1, c1, B1, q1, d1, X1, xn1, xc1, Y1, yn1, yc1, t1⟩ := V1
  dsimp only at HV1 ⊢
  clear hv1 hm1 hb1 hs1 HST
  go_upto_region 3 with fail
  have al := ((Below.refl w1.heap.size w1).alloc (Nat.le_refl _) (.cells #[.slice A1 n1 c1, .slice B1 q1 d1, .slice X1 xn1 xc1, .slice Y1 yn1 yc1, .int .i64 t1] 34)).alloc (by simp) (.cells #[.int .i64 1, .int .i64 2, .int .i64 9, .int .i64 12, .int .i64 5, .int .i64 1, .int .i64 0] 42)
  have G2 := Lib.hid ((Blk.new w1 34 #[.slice A1 n1 c1, .slice B1 q1 d1, .slice X1 xn1 xc1, .slice Y1 yn1 yc1, .int .i64 t1]).more (.cells #[.int .i64 1, .int .i64 2, .int .i64 9, .int .i64 12, .int .i64 5, .int .i64 1, .int .i64 0] 42))
  have r2 := Blk.new (w1.alloc (.cells #[.slice A1 n1 c1, .slice B1 q1 d1, .slice X1 xn1 xc1, .slice Y1 yn1 yc1, .int .i64 t1] 34)) 42 #[.int .i64 1, .int .i64 2, .int .i64 9, .int .i64 12, .int .i64 5, .int .i64 1, .int .i64 0]
  rw [alloc_size] at r2
  have R2 := Lib.hid r2
  have HV2 := Lib.hid (HV1.out.below al)
  have HL2 := Lib.hid (HL1.out.trans (al.mono HL1.out.size))
  clear al r2 HV1 HL1
  generalize (w1.alloc (.cells #[.slice A1 n1 c1, .slice B1 q1 d1, .slice X1 xn1 xc1, .slice Y1 yn1 yc1, .int .i64 t1] 34)).alloc (.cells #[.int .i64 1, .int .i64 2, .int .i64 9, .int .i64 12, .int .i64 5, .int .i64 1, .int .i64 0] 42) = w2 at G2 R2 HV2 HL2 ⊢
  generalize w1.heap.size = g at G2 R2 ⊢
  have al3 := (Below.refl w2.heap.size w2).alloc (Nat.le_refl _) (.cells #[.bool false, .bool false, .bool false, .bool false, .bool true] 4)
  have R3 := Lib.hid (R2.out.later al3)
  have G3 := Lib.hid (G2.out.later al3)
  have D1 := Lib.hid (HD1.out ⟨A1, n1, c1, B1, q1, d1, X1, xn1, xc1, Y1, yn1, yc1, t1⟩ _ _ (HV2.out.below al3) (HL2.out.trans (al3.mono HL2.out.size)) (legs5 w2))
  have HL3 := Lib.hid (HL2.out.trans (al3.mono HL2.out.size))
  dsimp only at D1
  obtain ⟨x0, x1, x2, x3, x4⟩ := (show _ ∧ _ ∧ _ ∧ _ ∧ _ from ⟨G2.out.cell 0 rfl, G2.out.cell 1 rfl, G2.out.cell 2 rfl, G2.out.cell 3 rfl, G2.out.cell 4 rfl⟩)
  obtain ⟨r0, r1, r2, r3, r4, r5, r6⟩ := (show _ ∧ _ ∧ _ ∧ _ ∧ _ ∧ _ ∧ _ from ⟨R2.out.cell 0 rfl, R2.out.cell 1 rfl, R2.out.cell 2 rfl, R2.out.cell 3 rfl, R2.out.cell 4 rfl, R2.out.cell 5 rfl, R2.out.cell 6 rfl⟩)
  clear al3
  go_upto_region 4 with (first
    | (go_at_call 14; refine D1.out.mono ?_; rintro _ w4 ⟨V4, rfl, hv4, hb4, -⟩
       obtain ⟨A4, n4, c4, B4, q4, d4, X4, xn4, xc4, Y4, yn4, yc4, t4⟩ := V4
       dsimp only at hv4 ⊢
       have HV4 := Lib.hid hv4
       have HX4 := Lib.hid hb4
       clear hv4 hb4 x0 x1 x2 x3 x4 r0 r1 r2 r3 r4 r5 r6))
  have HL4 := Lib.hid (HL3.out.trans (HX4.out.mono HL3.out.size))
  have R4 := Lib.hid (R3.out.later HX4.out)
  have al5 := ((Below.refl w4.heap.size w4).alloc (Nat.le_refl _) (.cells #[.slice A4 n4 c4, .slice B4 q4 d4, .slice X4 xn4 xc4, .slice Y4 yn4 yc4, .int .i64 t4] 34)).alloc (by simp) (.cells #[.int .i64 9, .int .i64 0] 50)
  have G5 := Lib.hid ((Blk.new w4 34 #[.slice A4 n4 c4, .slice B4 q4 d4, .slice X4 xn4 xc4, .slice Y4 yn4 yc4, .int .i64 t4]).more (.cells #[.int .i64 9, .int .i64 0] 50))
  have p5 := Blk.new (w4.alloc (.cells #[.slice A4 n4 c4, .slice B4 q4 d4, .slice X4 xn4 xc4, .slice Y4 yn4 yc4, .int .i64 t4] 34)) 50 #[.int .i64 9, .int .i64 0]
  rw [alloc_size] at p5
  have P5 := Lib.hid p5
  have R5 := Lib.hid (R4.out.later al5)
  have HL5 := Lib.hid (HL4.out.trans (al5.mono HL4.out.size))
  have HV5 := Lib.hid (HV4.out.below al5)
  clear al5 p5 R4 HL4 HV4 HX4 D1 R3 G3 HL3 HV2 HL2 R2 G2
  generalize (w4.alloc (.cells #[.slice A4 n4 c4, .slice B4 q4 d4, .slice X4 xn4 xc4, .slice Y4 yn4 yc4, .int .i64 t4] 34)).alloc (.cells #[.int .i64 9, .int .i64 0] 50) = w5 at G5 P5 R5 HL5 HV5 ⊢
  generalize w4.heap.size = g4 at G5 P5 ⊢
  have D2 := Lib.hid (HD2.out ⟨A4, n4, c4, B4, q4, d4, X4, xn4, xc4, Y4, yn4, yc4, t4⟩ _ HV5.out HL5.out)
  dsimp only at D2
  obtain ⟨x0, x1, x2, x3, x4⟩ := (show _ ∧ _ ∧ _ ∧ _ ∧ _ from ⟨G5.out.cell 0 rfl, G5.out.cell 1 rfl, G5.out.cell 2 rfl, G5.out.cell 3 rfl, G5.out.cell 4 rfl⟩)
  obtain ⟨r0, r1, r2, r3, r4, r5, r6⟩ := (show _ ∧ _ ∧ _ ∧ _ ∧ _ ∧ _ ∧ _ from ⟨R5.out.cell 0 rfl, R5.out.cell 1 rfl, R5.out.cell 2 rfl, R5.out.cell 3 rfl, R5.out.cell 4 rfl, R5.out.cell 5 rfl, R5.out.cell 6 rfl⟩)
  go_upto_region 5 with (first
    | (go_at_call 14; refine D2.out.mono ?_; rintro _ w6 ⟨V6, rfl, hv6, hb6, -⟩
       obtain ⟨A6, n6, c6, B6, q6, d6, X6, xn6, xc6, Y6, yn6, yc6, t6⟩ := V6
       dsimp only at hv6 ⊢
       have HX6 := Lib.hid hb6
       clear hv6 hb6 x0 x1 x2 x3 x4 r0 r1 r2 r3 r4 r5 r6))
  have al7 := ((Below.refl w6.heap.size w6).alloc (Nat.le_refl _) (.cells #[.slice A6 n6 c6, .slice B6 q6 d6, .slice X6 xn6 xc6, .slice Y6 yn6 yc6, .int .i64 t6] 34)).alloc (by simp) (.cells #[.int .i64 9, .int .i64 0] 50)
  have p7 := Blk.new (w6.alloc (.cells #[.slice A6 n6 c6, .slice B6 q6 d6, .slice X6 xn6 xc6, .slice Y6 yn6 yc6, .int .i64 t6] 34)) 50 #[.int .i64 9, .int .i64 0]
  rw [alloc_size] at p7
  have P7 := Lib.hid p7
  have P57 := Lib.hid ((P5.out.later HX6.out).later al7)
  have G57 := Lib.hid ((G5.out.later HX6.out).later al7)
  have HL6 := Lib.hid (HL5.out.trans (HX6.out.mono HL5.out.size))
  have HL7 := Lib.hid (HL6.out.trans (al7.mono HL6.out.size))
  have hyn : yn4 = 1 := by have h := HV5.out.yn; dsimp only at h; rw [← h]; exact HK1.out
  subst hyn
  clear al7 p7 HX6 HL6 HL5 HV5 D2 R5 P5 G5
  generalize (w6.alloc (.cells #[.slice A6 n6 c6, .slice B6 q6 d6, .slice X6 xn6 xc6, .slice Y6 yn6 yc6, .int .i64 t6] 34)).alloc (.cells #[.int .i64 9, .int .i64 0] 50) = w7 at P7 P57 G57 HL7 ⊢
  obtain ⟨z0, z1⟩ := (show _ ∧ _ from ⟨P7.out.cell 0 rfl, P7.out.cell 1 rfl⟩)
  obtain ⟨p0, p1⟩ := (show _ ∧ _ from ⟨P57.out.cell 0 rfl, P57.out.cell 1 rfl⟩)
  have x3 := G57.out.cell 3 rfl
  go_wp2
  go_ret
  exact ⟨rfl, HL7.out⟩
end Go.Proofs.YtjphkpohcgkcmaaGreatDoor
