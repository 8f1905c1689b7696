/-
  The document's example of layer 17.
-/
import Derived.Test.YteifgmdaggiaaaaGreatDoorWStExample
import Derived.Test.YteifgmdaggiaaaaGreatDoorWGrK
namespace Go.Proofs.YteifgmdaggiaaaaGreatDoor
open Go Go.RowKit
set_option linter.unusedVariables false
def ew0 : Rv := ⟨⟨sw0, [], []⟩, []⟩
def ewE : List Ev := [⟨0, rw1, 0, false⟩, ⟨1, Rq.zero, 1, true⟩, ⟨1, Rq.zero, 1, false⟩]
theorem ew_os : (runV ew0 ewE).os = [(10, 0), (10, 0), (0, 0)] := by kernel_rfl
theorem ew_sl : (runV ew0 ewE).X.sl = [] := by kernel_rfl
theorem ew_len : (runV ew0 ewE).X.T.acs.length = 15 := by kernel_rfl
theorem ew_bal : ((runV ew0 ewE).X.T.acs[9]?).map Ac.bal = some 495 := by kernel_rfl
theorem ew_fit1 : rightB (runV ew0 (ewE.take 1)).X.T.acs = true ∧ (runV ew0 (ewE.take 1)).X.T.pys.length = 0 ∧ (runV ew0 (ewE.take 1)).X.sl.length = 1 ∧ (runV ew0 (ewE.take 1)).X.kl.length = 1 := ⟨by kernel_rfl, by kernel_rfl, by kernel_rfl, by kernel_rfl⟩
theorem ew_fit2 : rightB (runV ew0 (ewE.take 2)).X.T.acs = true ∧ (runV ew0 (ewE.take 2)).X.T.pys.length = 0 ∧ (runV ew0 (ewE.take 2)).X.sl.length = 1 ∧ (runV ew0 (ewE.take 2)).X.kl.length = 1 := ⟨by kernel_rfl, by kernel_rfl, by kernel_rfl, by kernel_rfl⟩
theorem ew_good (k : Nat) (hk : k < 3) : Fits (runV ew0 (ewE.take k)).X.T (runV ew0 (ewE.take k)).X.sl (runV ew0 (ewE.take k)).X.kl ∧ (runV ew0 (ewE.take k)).X.kl.length ≤ 900000 ∧ ∀ e, ewE[k]? = some e → e.what = 2 → TickAt (runV ew0 (ewE.take k)).X := by
 match k, hk with
 | 0, _ => exact ⟨sw0_fits, by decide, fun e he hw => by injection he with he; subst he; cases hw⟩
 | 1, _ => exact ⟨⟨ew_fit1.1, by rw [ew_fit1.2.1]; decide, by rw [ew_fit1.2.2.1]; decide, by rw [ew_fit1.2.2.2]; decide⟩, by rw [ew_fit1.2.2.2]; decide, fun e he hw => by injection he with he; subst he; cases hw⟩
 | 2, _ => exact ⟨⟨ew_fit2.1, by rw [ew_fit2.2.1]; decide, by rw [ew_fit2.2.2.1]; decide, by rw [ew_fit2.2.2.2]; decide⟩, by rw [ew_fit2.2.2.2]; decide, fun e he hw => by injection he with he; subst he; cases hw⟩
theorem ew_lit (w : World) : RdS evs (w.alloc (.cells #[.int .i64 0, .int .i64 1, .int .i64 2, .int .i64 9, .int .i64 12, .int .i64 5, .int .i64 1, .int .i64 0, .int .i64 0, .bool false, .int .i64 1, .int .i64 0, .int .i64 0, .int .i64 0, .int .i64 0, .int .i64 0, .int .i64 0, .int .i64 0, .int .i64 1, .bool true, .int .i64 1, .int .i64 0, .int .i64 0, .int .i64 0, .int .i64 0, .int .i64 0, .int .i64 0, .int .i64 0, .int .i64 1, .bool false] 53)) (some ⟨w.heap.size, 0, none⟩) ewE :=
 (OwnS.lit (S := evs) w ewE w.heap.size (by decide) (Nat.le_refl _) #[.int .i64 0, .int .i64 1, .int .i64 2, .int .i64 9, .int .i64 12, .int .i64 5, .int .i64 1, .int .i64 0, .int .i64 0, .bool false, .int .i64 1, .int .i64 0, .int .i64 0, .int .i64 0, .int .i64 0, .int .i64 0, .int .i64 0, .int .i64 0, .int .i64 1, .bool true, .int .i64 1, .int .i64 0, .int .i64 0, .int .i64 0, .int .i64 0, .int .i64 0, .int .i64 0, .int .i64 0, .int .i64 1, .bool false] rfl).rd
set_option maxRecDepth 100000 in
set_option maxHeartbeats 1000000 in
theorem eawake_ok (w : World) (hh : HasErr w) : Calls Tryz.prog 9 #[] w fun e w' => e = .returned (.bool true) ∧ Below w.heap.size w w' := by
 have HH := Lib.hid hh
 have HST := Lib.hid (fun W (hr : Rd .u32 W (some ⟨w.heap.size, 0, none⟩) 4 (ints [500, 500, 500, 500])) => state_is (w0 := W) none (some ⟨w.heap.size, 0, none⟩) none 0 0 4 4 0 0 [] [500, 500, 500, 500] Rd.nil hr (fun x hx => by cases hx) (fun x hx => by simp at hx; omega) (by decide) (Nat.le_refl _) (Nat.zero_le _) none 0 0 [] rfl 0 (by decide) (by decide) W (Below.refl _ _) RdS.nil (fun j z h => by simp at h))
 have HRU := Lib.hid (fun V W la (hv : SkAt W V sw0 [] []) (hb : Below w.heap.size w W) (hl : RdS evs W la ewE) => erun_any V ew0 W la 3 3 ewE hv (HH.out.below hb) hl rfl (by decide) rfl ew_good)
 unfold RvRes at HRU
 rw [ew_os, ew_sl] at HRU
 have HLE := Lib.hid ew_len
 have HBA := Lib.hid ew_bal
 generalize (runV ew0 ewE).X.T = TE at HRU HLE HBA
 generalize (runV ew0 ewE).X.kl = KE at HRU
 unfold Sv.val Sv.cells at HST HRU
 (try dsimp only at HST); (try dsimp only at HRU)
 clear hh
 go_enter Tryz.func9, Tryz.ntmps9
 go_wp2_with fail
 refine (HST.out _ (lit4 w)).mono ?_
 rintro _ w1 ⟨V1, s, rfl, hv1, hm1, hb1, hs1⟩
 have hs : s = sw0 := hs1 trivial
 subst hs
 have HV_1 := Lib.hid hv1.sk
 have HL_1 := Lib.hid (((Below.refl w.heap.size w).alloc (Nat.le_refl _) (.cells #[.int .u32 500, .int .u32 500, .int .u32 500, .int .u32 500] 88)).trans (hb1.mono (by simp)))
 obtain ⟨A1, n1, c1, B1, q1, d1, X1, xn1, xc1, Y1, yn1, yc1, t1⟩ := V1
 dsimp only at HV_1 ⊢
 clear hv1 hm1 hb1 hs1 HST
 go_upto_region 3 with fail
 have al := (Below.refl w1.heap.size w1).alloc (Nat.le_refl _) (.cells #[.slice A1 n1 c1, .slice B1 q1 d1, .slice X1 xn1 xc1, .slice Y1 yn1 yc1, .int .i64 t1] 35)
 replace al := al.alloc (by simp; try omega) (.cells #[.int .i64 1, .int .i64 2, .int .i64 9, .int .i64 12, .int .i64 5, .int .i64 1, .int .i64 0] 42)
 have nb0 := (Blk.new w1 35 #[.slice A1 n1 c1, .slice B1 q1 d1, .slice X1 xn1 xc1, .slice Y1 yn1 yc1, .int .i64 t1]).more (.cells #[.int .i64 1, .int .i64 2, .int .i64 9, .int .i64 12, .int .i64 5, .int .i64 1, .int .i64 0] 42)
 have nb1 := Blk.new (w1.alloc (.cells #[.slice A1 n1 c1, .slice B1 q1 d1, .slice X1 xn1 xc1, .slice Y1 yn1 yc1, .int .i64 t1] 35)) 42 #[.int .i64 1, .int .i64 2, .int .i64 9, .int .i64 12, .int .i64 5, .int .i64 1, .int .i64 0]
 rw [alloc_size] at nb1
 have HL_2 := Lib.hid (HL_1.out.trans (al.mono HL_1.out.size))
 have HV_2 := Lib.hid (HV_1.out.below al)
 clear al HL_1 HV_1
 have G_2 := Lib.hid (nb0)
 have R_2 := Lib.hid (nb1)
 clear nb0 nb1
 generalize (w1.alloc (.cells #[.slice A1 n1 c1, .slice B1 q1 d1, .slice X1 xn1 xc1, .slice Y1 yn1 yc1, .int .i64 t1] 35)).alloc (.cells #[.int .i64 1, .int .i64 2, .int .i64 9, .int .i64 12, .int .i64 5, .int .i64 1, .int .i64 0] 42) = w2 at HL_2 HV_2 G_2 R_2 ⊢
 obtain ⟨x0, x1, x2, x3, x4⟩ := (show _ ∧ _ ∧ _ ∧ _ ∧ _ from ⟨G_2.out.cell 0 rfl, G_2.out.cell 1 rfl, G_2.out.cell 2 rfl, G_2.out.cell 3 rfl, G_2.out.cell 4 rfl⟩)
 obtain ⟨r0, r1, r2, r3, r4, r5, r6⟩ := (show _ ∧ _ ∧ _ ∧ _ ∧ _ ∧ _ ∧ _ from ⟨R_2.out.cell 0 rfl, R_2.out.cell 1 rfl, R_2.out.cell 2 rfl, R_2.out.cell 3 rfl, R_2.out.cell 4 rfl, R_2.out.cell 5 rfl, R_2.out.cell 6 rfl⟩)
 have al3 := (Below.refl w2.heap.size w2).alloc (Nat.le_refl _) (.cells #[.int .i64 0, .int .i64 1, .int .i64 2, .int .i64 9, .int .i64 12, .int .i64 5, .int .i64 1, .int .i64 0, .int .i64 0, .bool false, .int .i64 1, .int .i64 0, .int .i64 0, .int .i64 0, .int .i64 0, .int .i64 0, .int .i64 0, .int .i64 0, .int .i64 1, .bool true, .int .i64 1, .int .i64 0, .int .i64 0, .int .i64 0, .int .i64 0, .int .i64 0, .int .i64 0, .int .i64 0, .int .i64 1, .bool false] 53)
 have D1 := Lib.hid (HRU.out ⟨A1, n1, c1, B1, q1, d1, X1, xn1, xc1, Y1, yn1, yc1, t1⟩ _ _ (HV_2.out.below al3) (HL_2.out.trans (al3.mono HL_2.out.size)) (ew_lit w2))
 have HL3 := Lib.hid (HL_2.out.trans (al3.mono HL_2.out.size))
 dsimp only at D1
 clear al3
 go_upto_region 4 with (first
   | (go_at_call 23; refine D1.out.mono ?_; rintro _ w4 ⟨V4, gd, nd, cd, rfl, hv, ho, hnn, hb⟩
      obtain ⟨A4, n4, c4, B4, q4, d4, X4, xn4, xc4, Y4, yn4, yc4, t4⟩ := V4
      dsimp only at hv ho hnn ⊢
      have HVd := Lib.hid hv
      have HXd := Lib.hid hb
      have HOd := Lib.hid ho
      have HNd := Lib.hid hnn
      clear hv ho hnn hb x0 x1 x2 x3 x4 r0 r1 r2 r3 r4 r5 r6))
 have HL4 := Lib.hid (HL3.out.trans (HXd.out.mono HL3.out.size))
 clear HL3 HXd D1 HV_2 HL_2 G_2 R_2
 have EL_0 := HL4
 have EV_0 := HVd
 have EO_0 := HOd
 clear HL4 HVd HOd
 have al := (Below.refl w4.heap.size w4).alloc (Nat.le_refl _) (.cells #[.slice A4 n4 c4, .slice B4 q4 d4, .slice X4 xn4 xc4, .slice Y4 yn4 yc4, .int .i64 t4] 35)
 have nb0 := Blk.new w4 35 #[.slice A4 n4 c4, .slice B4 q4 d4, .slice X4 xn4 xc4, .slice Y4 yn4 yc4, .int .i64 t4]
 have EL_1 := Lib.hid (EL_0.out.trans (al.mono EL_0.out.size))
 have EV_1 := Lib.hid (EV_0.out.below al)
 have EO_1 := Lib.hid (EO_0.out.below al)
 clear al EL_0 EV_0 EO_0
 have U_1 := Lib.hid (nb0)
 clear nb0
 generalize w4.alloc (.cells #[.slice A4 n4 c4, .slice B4 q4 d4, .slice X4 xn4 xc4, .slice Y4 yn4 yc4, .int .i64 t4] 35) = w5 at EL_1 EV_1 EO_1 U_1 ⊢
 have hnd : nd = 3 := HNd.out.symm
 subst hnd
 have hxn : xn4 = 0 := by have h := EV_1.out.xn; dsimp only at h; exact h.symm
 subst hxn
 have hnn : n4 = 15 := by have h := EV_1.out.n; dsimp only at h; rw [← h]; exact HLE.out
 subst hnn
 obtain ⟨a, ha, hab⟩ := Option.map_eq_some_iff.1 HBA.out
 obtain ⟨ad, ea, hat⟩ := EV_1.out.accs.at_ ha
 dsimp only at ea
 subst ea
 have k1 : w5.cell? ⟨ad.block, ad.off + 27 + 1, none⟩ = some (.int .i64 495) := by rw [← hab]; have k := hat.c1; simpa [Addr.add] using k
 have p0 : w5.cell? ⟨gd, 0, none⟩ = some (.int .i64 10) := EO_1.out.at_ (j := 0) rfl 0 _ rfl
 have p1 : w5.cell? ⟨gd, 2, none⟩ = some (.int .i64 10) := EO_1.out.at_ (j := 1) rfl 0 _ rfl
 have p2 : w5.cell? ⟨gd, 4, none⟩ = some (.int .i64 0) := EO_1.out.at_ (j := 2) rfl 0 _ rfl
 obtain ⟨x0, x1, x2, x3, x4⟩ := (show _ ∧ _ ∧ _ ∧ _ ∧ _ from ⟨U_1.out.cell 0 rfl, U_1.out.cell 1 rfl, U_1.out.cell 2 rfl, U_1.out.cell 3 rfl, U_1.out.cell 4 rfl⟩)
 clear hat ha hab
 go_wp2
 go_ret
 exact ⟨rfl, EL_1.out⟩
end Go.Proofs.YteifgmdaggiaaaaGreatDoor
