/-
  The law EngineRight: whatever happens, all is right still.
-/
import Derived.Test.YteifgmdaggiaaaaGreatDoorQEngAwake
import Derived.Test.YteifgmdaggiaaaaGreatDoorQGrP
import Derived.Test.YteifgmdaggiaaaaGreatDoorQEngHeld
import Derived.Test.YteifgmdaggiaaaaGreatDoorQSagaRtFn
import Derived.Test.YteifgmdaggiaaaaGreatDoorQBankOn
import Derived.Test.YteifgmdaggiaaaaGreatDoorQChartRight
import Derived.Test.YteifgmdaggiaaaaGreatDoorQChartSums
import Derived.Test.YteifgmdaggiaaaaGreatDoorQKeyOpen
import Derived.Test.YteifgmdaggiaaaaGreatDoorQGrC
import Derived.Deep.CutRange
set_option linter.unusedSimpArgs false
namespace Go.Proofs.YteifgmdaggiaaaaGreatDoor
open Go Go.RowKit
set_option linter.unusedVariables false
/-- A saga is waited for. -/
theorem GoodX.waits {X : Eg} (h : GoodX X) {i : Nat} {g : Sg} (hg : X.sl[i]? = some g) : askR X.kl g.rq = (10, 0, true) := by
 obtain ⟨x, y, l1, l2, k, e1, e2, e3, e4, e5, e6, e7⟩ := h.at_ hg
 have hon := h.once
 rw [e3] at hon ⊢
 obtain ⟨_, hf⟩ := once_at hon
 unfold askR
 rw [← e4, hf]
 dsimp only
 rw [knAt_of (a := k) (by simp), if_pos rfl, if_neg (by rw [e5]; exact Bool.false_ne_true)]
theorem GoodX.open_ {X : Eg} (h : GoodX X) : (openL X.kl).length = X.sl.length := by
 have h1 := congrArg List.length h.link
 rw [List.length_map, List.length_map] at h1
 unfold openL
 rw [List.length_map]
 exact h1
theorem GoodX.sums {X : Eg} (h : GoodX X) (c : Int) (hc : 0 ≤ c ∧ c < 3) : psum c X.T.acs = 0 := Ok.sums (s := ⟨X.T.acs, X.T.pys ++ X.sl.map asPay, X.T.now⟩) h.ok c hc
set_option maxRecDepth 100000 in
set_option maxHeartbeats 4000000 in
theorem engineRight_core (w : World) (b : Value) (hb : BookAt w b) (a1 : Option Addr) (lz1 cz1 : Nat) (zs : List Pd) (hzl : zs.length = lz1) (hr : RdS paids w a1 zs) (hfit : ∀ (j : Nat) z, zs[j]? = some z → z.fits) (hl : lz1 ≤ 1900000)
  (ak : Option Addr) (l1 cz2 : Nat) (zk : List EA) (hkl : zk.length = l1) (hk : RdS eacts w ak zk) (hkf : ∀ (j : Nat) z, zk[j]? = some z → z.fits) (hl1 : l1 ≤ 1900000) (hh : HasErr w) :
  Calls Tryz.prog 4 #[b, .slice a1 lz1 cz1, .slice ak l1 cz2] w fun e w' => e = .returned (.bool true) ∧ Below w.heap.size w w' := by
 have HST := Lib.hid (fun W (hW : Below w.heap.size w W) => state_any hb a1 lz1 cz1 zs hzl 0 (by decide) hl W hW (hr.below hW) hfit)
 have HAW := Lib.hid (fun W (hW : Below w.heap.size w W) => eawake_ok W (hh.below hW))
 have HH := Lib.hid hh
 have HZK := Lib.hid hk
 have HKL := Lib.hid hkl
 have HKF := Lib.hid hkf
 obtain ⟨CA, HA, LA, cl, cc, hl', hc, ll, lc', cs, hs, ls', rfl, h1, h2, h3, h4, h5, h6, h7, h8, h9⟩ := hb.form
 unfold Sv.val Sv.cells at HST
 clear h1 h2 h3 h4 h5 h6 h7 h8 h9 hb hzl hr hfit hk hkl hkf hh
 go_enter Tryz.func4, Tryz.ntmps4
 go_wp2_with fail
 refine (HAW.out _ ((Below.refl w.heap.size w).alloc (Nat.le_refl _) (.cells #[.slice CA cl cc, .slice HA hl' hc, .slice LA ll lc'] 25))).mono ?_
 rintro _ wa ⟨rfl, hba⟩
 have HBk := Lib.hid ((Blk.new w 25 #[.slice CA cl cc, .slice HA hl' hc, .slice LA ll lc']).later hba)
 have HWA := Lib.hid (((Below.refl w.heap.size w).alloc (Nat.le_refl _) (.cells #[.slice CA cl cc, .slice HA hl' hc, .slice LA ll lc'] 25)).trans (hba.mono (by simp)))
 clear hba HAW
 obtain ⟨b0, b1, b2⟩ := (show _ ∧ _ ∧ _ from ⟨HBk.out.cell 0 rfl, HBk.out.cell 1 rfl, HBk.out.cell 2 rfl⟩)
 go_wp2_with fail
 refine (HST.out _ HWA.out).mono ?_
 rintro _ w1 ⟨V1, s0, rfl, hv1, hmd, hb1⟩
 have HL_0 := Lib.hid (HWA.out.trans (hb1.mono HWA.out.size))
 have GD0 := Lib.hid (good_new hmd.ok (by have h1 := hmd.pays; omega))
 have HV_0 := Lib.hid hv1.sk
 obtain ⟨A1, n1, c1, B1, q1, d1, X1, xn1, xc1, Y1, yn1, yc1, t1⟩ := V1
 dsimp only at HV_0 ⊢
 clear hv1 hb1 hmd HST HWA HBk b0 b1 b2
 have hg : w.heap.size ≤ w1.heap.size := HL_0.out.size
 go_upto_region 4 with fail
 have al := (Below.refl w1.heap.size w1).alloc (Nat.le_refl _) (.cells #[.slice A1 n1 c1, .slice B1 q1 d1, .slice X1 xn1 xc1, .slice Y1 yn1 yc1, .int .i64 t1] 35)
 have nb0 := Blk.new w1 35 #[.slice A1 n1 c1, .slice B1 q1 d1, .slice X1 xn1 xc1, .slice Y1 yn1 yc1, .int .i64 t1]
 have HL_1 := Lib.hid (HL_0.out.trans (al.mono HL_0.out.size))
 have HV_1 := Lib.hid (HV_0.out.below al)
 clear al HL_0 HV_0
 have G_1 := Lib.hid (nb0)
 clear nb0
 generalize w1.alloc (.cells #[.slice A1 n1 c1, .slice B1 q1 d1, .slice X1 xn1 xc1, .slice Y1 yn1 yc1, .int .i64 t1] 35) = w2 at HL_1 HV_1 G_1 ⊢
 generalize w1.heap.size = g at G_1 hg ⊢
 go_wp2
 go_loopw [21] (fun i wr => ∃ (k : Nat) (V : Sv) (X : Eg), k ≤ l1 ∧ i = .int .i64 (k : Int) ∧ Blk wr g 35 V.cells ∧ SkAt wr V X.T X.sl X.kl ∧ GoodX X ∧ Below w.heap.size w wr) (fun i _ => l1 - (intOf i).toNat)
 case atStart => exact ⟨0, ⟨A1, n1, c1, B1, q1, d1, X1, xn1, xc1, Y1, yn1, yc1, t1⟩, ⟨s0, [], []⟩, Nat.zero_le _, rfl, G_1.out, HV_1.out, GD0.out, HL_1.out⟩
 case round =>
  obtain ⟨k, V, X, hk, rfl, hG, hV, hGX, hB⟩ := hrel
  obtain ⟨A3, n3, c3, B3, q3, d3, X3, xn3, xc3, Y3, yn3, yc3, t3⟩ := V
  unfold Sv.cells at hG
  dsimp only at hG
  have G_0 := Lib.hid hG
  have HV_0 := Lib.hid hV
  have HL_0 := Lib.hid hB
  have GX := Lib.hid hGX
  clear hG hV hB hGX HL_1 HV_1 G_1
  by_cases hlt : k < l1
  · obtain ⟨z, hz⟩ : ∃ z, zk[k]? = some z := ⟨_, List.getElem?_eq_getElem (by rw [HKL.out]; exact hlt)⟩
    obtain ⟨ad, rfl, hat⟩ := (HZK.out.below HL_0.out).at_ hz
    obtain ⟨p0, p1, p2, p3, p4, p5, p6, p7, p8, p9⟩ := ea_cells hat
    have hfz := HKF.out k z hz
    obtain ⟨T, sl, kl⟩ := X
    dsimp only at HV_0
    have HEV := Lib.hid (fun W (hv : SkAt W ⟨A3, n3, c3, B3, q3, d3, X3, xn3, xc3, Y3, yn3, yc3, t3⟩ T sl kl) => event_any z hfz ⟨A3, n3, c3, B3, q3, d3, X3, xn3, xc3, Y3, yn3, yc3, t3⟩ T sl kl W hv (by have := GX.out.few; dsimp only at this; omega))
    unfold EvRes at HEV
    obtain ⟨e, he⟩ : ∃ e, z.ev sl = e := ⟨_, rfl⟩
    rw [he] at HEV
    have HD1 := Lib.hid (fun W (h1 : SkAt W ⟨A3, n3, c3, B3, q3, d3, X3, xn3, xc3, Y3, yn3, yc3, t3⟩ T sl kl) (h2 : Below w.heap.size w W) => edo_full ⟨A3, n3, c3, B3, q3, d3, X3, xn3, xc3, Y3, yn3, yc3, t3⟩ T sl kl e W h1 GX.out.fits (by have := GX.out.keys; dsimp only at this; omega) (HH.out.below h2) (fun _ => GX.out.tick_))
    unfold EgB at HD1
    have GX2 := Lib.hid (GX.out.ev e)
    generalize egO ⟨T, sl, kl⟩ e = OE at HD1 GX2
    obtain ⟨⟨T9, S9, K9⟩, E9, I9⟩ := OE
    dsimp only at HD1 GX2
    obtain ⟨what, ⟨key, op, qa, qb, amt, legs, til⟩, n, ok⟩ := z
    obtain ⟨ew, ⟨rk, ro, ra, rb, rm, rl, ru⟩, ekey, eok⟩ := e
    unfold EA.cells Sv.val Sv.cells Ev.cells at HEV
    unfold Sv.val Sv.cells Ev.cells at HD1
    dsimp only at p0 p1 p2 p3 p4 p5 p6 p7 p8 p9 HEV HD1
    clear hat hz hfz he GX
    go_upto_region 7 with fail
    have hgq : g < wr.heap.size := G_0.out.lt
    have al := (Below.refl wr.heap.size wr).alloc (Nat.le_refl _) (.cells #[.int .u8 (what : Int), .int .u8 (key : Int), .int .u8 (op : Int), .int .u8 (qa : Int), .int .u8 (qb : Int), .int .u16 (amt : Int), .int .u8 (legs : Int), .int .u8 (til : Int), .int .u8 (n : Int), .bool ok] 58)
    have nb0 := Blk.new wr 58 #[.int .u8 (what : Int), .int .u8 (key : Int), .int .u8 (op : Int), .int .u8 (qa : Int), .int .u8 (qb : Int), .int .u16 (amt : Int), .int .u8 (legs : Int), .int .u8 (til : Int), .int .u8 (n : Int), .bool ok]
    have HL_1 := Lib.hid (HL_0.out.trans (al.mono HL_0.out.size))
    have HV_1 := Lib.hid (HV_0.out.below al)
    have G_1 := Lib.hid (G_0.out.later al)
    clear al HL_0 HV_0 G_0
    have Q_1 := Lib.hid (nb0)
    clear nb0
    generalize wr.alloc (.cells #[.int .u8 (what : Int), .int .u8 (key : Int), .int .u8 (op : Int), .int .u8 (qa : Int), .int .u8 (qb : Int), .int .u16 (amt : Int), .int .u8 (legs : Int), .int .u8 (til : Int), .int .u8 (n : Int), .bool ok] 58) = wb at HL_1 HV_1 G_1 Q_1 ⊢
    clear p0 p1 p2 p3 p4 p5 p6 p7 p8 p9
    generalize wr.heap.size = gq at Q_1 hgq ⊢
    go_cut [21] from 21 to 87 (fun s21 wx => s21 = .int .i64 (k : Int) ∧ ∃ V' : Sv, Blk wx g 35 V'.cells ∧ SkAt wx V' T9 S9 K9 ∧ Below w.heap.size w wx)
    case first =>
     have hqb : gq < wb.heap.size := Q_1.out.lt
     refine wp_region_held_drew (S := fun w' => On (fun b => b = gq) wb w') (by kernel_rfl) (On.refl _ wb).drew (fun hHeld => ?_)
     refine tk 1 27 (v := ?_) ?_ ?_
     rotate_left
     · intro w' hSw
       have hSw' := hSw
       (try dsimp only at hSw')
       obtain ⟨r0, r1, r2, r3, r4, r5, r6, r7, r8, r9⟩ := (show _ ∧ _ ∧ _ ∧ _ ∧ _ ∧ _ ∧ _ ∧ _ ∧ _ ∧ _ from ⟨(Q_1.out.on hSw' rfl).cell 0 rfl, (Q_1.out.on hSw' rfl).cell 1 rfl, (Q_1.out.on hSw' rfl).cell 2 rfl, (Q_1.out.on hSw' rfl).cell 3 rfl, (Q_1.out.on hSw' rfl).cell 4 rfl, (Q_1.out.on hSw' rfl).cell 5 rfl, (Q_1.out.on hSw' rfl).cell 6 rfl, (Q_1.out.on hSw' rfl).cell 7 rfl, (Q_1.out.on hSw' rfl).cell 8 rfl, (Q_1.out.on hSw' rfl).cell 9 rfl⟩)
       go_simp
       (try with_reducible rfl)
     (try simp only [Act.put, sA, sB, sC])
     have hbd : Below wb.heap.size wb wb.drew := (Below.refl _ _).drew
     have hlo : gq < wb.drew.heap.size := hqb
     clear Q_1
     have HL_2 := Lib.hid (HL_1.out.trans (hbd.mono HL_1.out.size))
     have HV_2 := Lib.hid (HV_1.out.below hbd)
     have G_2 := Lib.hid (G_1.out.later hbd)
     clear HL_1 HV_1 G_1
     clear hbd hqb
     generalize wb.drew = wd at hHeld hlo HL_2 HV_2 G_2 ⊢
     refine wpAnyH_ready (rs := [0, 2]) (by kernel_rfl) (by simp) ?_
     refine AllReadyH.cons (i := 0) rfl (fun K0 hK => ?_) (AllReadyH.cons (i := 2) rfl (fun K0 hK => ?_) AllReadyH.nil)
     · obtain ⟨x0, x1, x2, x3, x4⟩ := (show _ ∧ _ ∧ _ ∧ _ ∧ _ from ⟨G_2.out.cell 0 rfl, G_2.out.cell 1 rfl, G_2.out.cell 2 rfl, G_2.out.cell 3 rfl, G_2.out.cell 4 rfl⟩)
       go_simp
       refine hK.out _ wd hHeld (fun hHeld => ?_)
       clear hK K0
       (try simp only [Act.put, sA, sB, sC])
       clear x0 x1 x2 x3 x4
       refine wpAnyH_ready (rs := [2]) (by kernel_rfl) (by simp) ?_
       refine AllReadyH.cons (i := 2) rfl (fun K0 hK => ?_) AllReadyH.nil
       obtain ⟨x0, x1, x2, x3, x4⟩ := (show _ ∧ _ ∧ _ ∧ _ ∧ _ from ⟨G_2.out.cell 0 rfl, G_2.out.cell 1 rfl, G_2.out.cell 2 rfl, G_2.out.cell 3 rfl, G_2.out.cell 4 rfl⟩)
       go_simp
       refine hK.out _ wd hHeld (fun hHeld => ?_)
       clear hK K0
       (try simp only [Act.put, sA, sB, sC])
       clear x0 x1 x2 x3 x4
       refine wpAnyH_ready (rs := [3]) (by kernel_rfl) (by simp) ?_
       refine AllReadyH.cons (i := 3) rfl (fun K0 hK => ?_) AllReadyH.nil
       go_simp
       go_at_call 15
       refine (HEV.out wd HV_2.out).mono ?_
       rintro _ wq3 ⟨rfl, hb⟩
       have hgw := hlo
       have hH := hHeld.trans (On.of hb (fun k hk => by (try dsimp only at hk); omega))
       replace hlo : gq < wq3.heap.size := by have := hb.size; omega
       have HL_3 := Lib.hid (HL_2.out.trans (hb.mono HL_2.out.size))
       have HV_3 := Lib.hid (HV_2.out.below hb)
       have G_3 := Lib.hid (G_2.out.later hb)
       clear HL_2 HV_2 G_2
       clear hb hgw
       refine hK.out _ _ hH (fun hHeld => ?_)
       clear hK K0
       (try simp only [Act.put, sA, sB, sC])
       clear hH
       refine wpAnyH_ready (rs := [4]) (by kernel_rfl) (by simp) ?_
       refine AllReadyH.cons (i := 4) rfl (fun K0 hK => ?_) AllReadyH.nil
       go_simp
       go_at_call 13
       refine (HD1.out wq3 HV_3.out HL_3.out).mono ?_
       rintro _ wq4 ⟨V, rfl, hv, hb, hnw⟩
       obtain ⟨A4, n4, c4, B4, q4, d4, X4, xn4, xc4, Y4, yn4, yc4, t4⟩ := V
       dsimp only at hv ⊢
       have HVa := Lib.hid hv
       have hH := hHeld.trans (On.of hb (fun k hk => by (try dsimp only at hk); omega))
       replace hlo : gq < wq4.heap.size := by have := hb.size; omega
       clear HV_3
       have HL_4 := Lib.hid (HL_3.out.trans (hb.mono HL_3.out.size))
       have G_4 := Lib.hid (G_3.out.later hb)
       clear HL_3 G_3
       have HP_4 := Lib.hid (HVa.out)
       clear hb hv hnw HVa
       refine hK.out _ _ hH (fun hHeld => ?_)
       clear hK K0
       (try simp only [Act.put, sA, sB, sC])
       clear hH
       refine tk 5 25 (v := ?_) ?_ ?_
       rotate_left
       · intro w' hSw
         go_simp
         (try with_reducible rfl)
       (try simp only [Act.put, sA, sB, sC])
       refine tk 6 31 (v := ?_) ?_ ?_
       rotate_left
       · intro w' hSw
         go_simp
         (try with_reducible rfl)
       (try simp only [Act.put, sA, sB, sC])
       refine tk 7 32 (v := ?_) ?_ ?_
       rotate_left
       · intro w' hSw
         go_simp
         (try with_reducible rfl)
       (try simp only [Act.put, sA, sB, sC])
       obtain ⟨y0, y1, y2, y3, y4⟩ := (show _ ∧ _ ∧ _ ∧ _ ∧ _ from ⟨G_4.out.cell 0 rfl, G_4.out.cell 1 rfl, G_4.out.cell 2 rfl, G_4.out.cell 3 rfl, G_4.out.cell 4 rfl⟩)
       obtain ⟨f0, f1, f2, f3, f4⟩ := (show _ ∧ _ ∧ _ ∧ _ ∧ _ from ⟨G_4.out.loose 0, G_4.out.loose 1, G_4.out.loose 2, G_4.out.loose 3, G_4.out.loose 4⟩)
       refine wpAnyH_ready (rs := [8]) (by kernel_rfl) (by simp) ?_
       refine AllReadyH.cons (i := 8) rfl (fun K0 hK => ?_) AllReadyH.nil
       go_simp
       refine hK.out _ (((((wq4.setCell ⟨g, 0, none⟩ (.slice A4 n4 c4)).setCell ⟨g, 1, none⟩ (.slice B4 q4 d4)).setCell ⟨g, 2, none⟩ (.slice X4 xn4 xc4)).setCell ⟨g, 3, none⟩ (.slice Y4 yn4 yc4)).setCell ⟨g, 4, none⟩ (.int .i64 t4)) (st_on hHeld (fun e => by (try dsimp only at e); omega) (.slice A4 n4 c4) (.slice B4 q4 d4) (.slice X4 xn4 xc4) (.slice Y4 yn4 yc4) (.int .i64 t4)) (fun hHeld => ?_)
       clear hK K0
       (try simp only [Act.put, sA, sB, sC])
       clear y0 y1 y2 y3 y4 f0 f1 f2 f3 f4
       refine wpAnyH_done (by kernel_rfl) ?_ _
       clear hHeld
       go_wp2_with fail
       go_meet
       exact ⟨rfl, ⟨A4, n4, c4, B4, q4, d4, X4, xn4, xc4, Y4, yn4, yc4, t4⟩, st_put G_4.out rfl (.slice A4 n4 c4) (.slice B4 q4 d4) (.slice X4 xn4 xc4) (.slice Y4 yn4 yc4) (.int .i64 t4), sk_put (V0 := ⟨A3, n3, c3, B3, q3, d3, X3, xn3, xc3, Y3, yn3, yc3, t3⟩) HP_4.out G_4.out (.slice A4 n4 c4) (.slice B4 q4 d4) (.slice X4 xn4 xc4) (.slice Y4 yn4 yc4) (.int .i64 t4), st_below HL_4.out hg (.slice A4 n4 c4) (.slice B4 q4 d4) (.slice X4 xn4 xc4) (.slice Y4 yn4 yc4) (.int .i64 t4)⟩
     · obtain ⟨x0, x1, x2, x3, x4⟩ := (show _ ∧ _ ∧ _ ∧ _ ∧ _ from ⟨G_2.out.cell 0 rfl, G_2.out.cell 1 rfl, G_2.out.cell 2 rfl, G_2.out.cell 3 rfl, G_2.out.cell 4 rfl⟩)
       go_simp
       refine hK.out _ wd hHeld (fun hHeld => ?_)
       clear hK K0
       (try simp only [Act.put, sA, sB, sC])
       clear x0 x1 x2 x3 x4
       refine wpAnyH_ready (rs := [0, 3]) (by kernel_rfl) (by simp) ?_
       refine AllReadyH.cons (i := 0) rfl (fun K0 hK => ?_) (AllReadyH.cons (i := 3) rfl (fun K0 hK => ?_) AllReadyH.nil)
       · obtain ⟨x0, x1, x2, x3, x4⟩ := (show _ ∧ _ ∧ _ ∧ _ ∧ _ from ⟨G_2.out.cell 0 rfl, G_2.out.cell 1 rfl, G_2.out.cell 2 rfl, G_2.out.cell 3 rfl, G_2.out.cell 4 rfl⟩)
         go_simp
         refine hK.out _ wd hHeld (fun hHeld => ?_)
         clear hK K0
         (try simp only [Act.put, sA, sB, sC])
         clear x0 x1 x2 x3 x4
         refine wpAnyH_ready (rs := [3]) (by kernel_rfl) (by simp) ?_
         refine AllReadyH.cons (i := 3) rfl (fun K0 hK => ?_) AllReadyH.nil
         go_simp
         go_at_call 15
         refine (HEV.out wd HV_2.out).mono ?_
         rintro _ wq7 ⟨rfl, hb⟩
         have hgw := hlo
         have hH := hHeld.trans (On.of hb (fun k hk => by (try dsimp only at hk); omega))
         replace hlo : gq < wq7.heap.size := by have := hb.size; omega
         have HL_3 := Lib.hid (HL_2.out.trans (hb.mono HL_2.out.size))
         have HV_3 := Lib.hid (HV_2.out.below hb)
         have G_3 := Lib.hid (G_2.out.later hb)
         clear HL_2 HV_2 G_2
         clear hb hgw
         refine hK.out _ _ hH (fun hHeld => ?_)
         clear hK K0
         (try simp only [Act.put, sA, sB, sC])
         clear hH
         refine wpAnyH_ready (rs := [4]) (by kernel_rfl) (by simp) ?_
         refine AllReadyH.cons (i := 4) rfl (fun K0 hK => ?_) AllReadyH.nil
         go_simp
         go_at_call 13
         refine (HD1.out wq7 HV_3.out HL_3.out).mono ?_
         rintro _ wq8 ⟨V, rfl, hv, hb, hnw⟩
         obtain ⟨A4, n4, c4, B4, q4, d4, X4, xn4, xc4, Y4, yn4, yc4, t4⟩ := V
         dsimp only at hv ⊢
         have HVa := Lib.hid hv
         have hH := hHeld.trans (On.of hb (fun k hk => by (try dsimp only at hk); omega))
         replace hlo : gq < wq8.heap.size := by have := hb.size; omega
         clear HV_3
         have HL_4 := Lib.hid (HL_3.out.trans (hb.mono HL_3.out.size))
         have G_4 := Lib.hid (G_3.out.later hb)
         clear HL_3 G_3
         have HP_4 := Lib.hid (HVa.out)
         clear hb hv hnw HVa
         refine hK.out _ _ hH (fun hHeld => ?_)
         clear hK K0
         (try simp only [Act.put, sA, sB, sC])
         clear hH
         refine tk 5 25 (v := ?_) ?_ ?_
         rotate_left
         · intro w' hSw
           go_simp
           (try with_reducible rfl)
         (try simp only [Act.put, sA, sB, sC])
         refine tk 6 31 (v := ?_) ?_ ?_
         rotate_left
         · intro w' hSw
           go_simp
           (try with_reducible rfl)
         (try simp only [Act.put, sA, sB, sC])
         refine tk 7 32 (v := ?_) ?_ ?_
         rotate_left
         · intro w' hSw
           go_simp
           (try with_reducible rfl)
         (try simp only [Act.put, sA, sB, sC])
         obtain ⟨y0, y1, y2, y3, y4⟩ := (show _ ∧ _ ∧ _ ∧ _ ∧ _ from ⟨G_4.out.cell 0 rfl, G_4.out.cell 1 rfl, G_4.out.cell 2 rfl, G_4.out.cell 3 rfl, G_4.out.cell 4 rfl⟩)
         obtain ⟨f0, f1, f2, f3, f4⟩ := (show _ ∧ _ ∧ _ ∧ _ ∧ _ from ⟨G_4.out.loose 0, G_4.out.loose 1, G_4.out.loose 2, G_4.out.loose 3, G_4.out.loose 4⟩)
         refine wpAnyH_ready (rs := [8]) (by kernel_rfl) (by simp) ?_
         refine AllReadyH.cons (i := 8) rfl (fun K0 hK => ?_) AllReadyH.nil
         go_simp
         refine hK.out _ (((((wq8.setCell ⟨g, 0, none⟩ (.slice A4 n4 c4)).setCell ⟨g, 1, none⟩ (.slice B4 q4 d4)).setCell ⟨g, 2, none⟩ (.slice X4 xn4 xc4)).setCell ⟨g, 3, none⟩ (.slice Y4 yn4 yc4)).setCell ⟨g, 4, none⟩ (.int .i64 t4)) (st_on hHeld (fun e => by (try dsimp only at e); omega) (.slice A4 n4 c4) (.slice B4 q4 d4) (.slice X4 xn4 xc4) (.slice Y4 yn4 yc4) (.int .i64 t4)) (fun hHeld => ?_)
         clear hK K0
         (try simp only [Act.put, sA, sB, sC])
         clear y0 y1 y2 y3 y4 f0 f1 f2 f3 f4
         refine wpAnyH_done (by kernel_rfl) ?_ _
         clear hHeld
         go_wp2_with fail
         go_meet
         exact ⟨rfl, ⟨A4, n4, c4, B4, q4, d4, X4, xn4, xc4, Y4, yn4, yc4, t4⟩, st_put G_4.out rfl (.slice A4 n4 c4) (.slice B4 q4 d4) (.slice X4 xn4 xc4) (.slice Y4 yn4 yc4) (.int .i64 t4), sk_put (V0 := ⟨A3, n3, c3, B3, q3, d3, X3, xn3, xc3, Y3, yn3, yc3, t3⟩) HP_4.out G_4.out (.slice A4 n4 c4) (.slice B4 q4 d4) (.slice X4 xn4 xc4) (.slice Y4 yn4 yc4) (.int .i64 t4), st_below HL_4.out hg (.slice A4 n4 c4) (.slice B4 q4 d4) (.slice X4 xn4 xc4) (.slice Y4 yn4 yc4) (.int .i64 t4)⟩
       · go_simp
         go_at_call 15
         refine (HEV.out wd HV_2.out).mono ?_
         rintro _ wq9 ⟨rfl, hb⟩
         have hgw := hlo
         have hH := hHeld.trans (On.of hb (fun k hk => by (try dsimp only at hk); omega))
         replace hlo : gq < wq9.heap.size := by have := hb.size; omega
         have HL_3 := Lib.hid (HL_2.out.trans (hb.mono HL_2.out.size))
         have HV_3 := Lib.hid (HV_2.out.below hb)
         have G_3 := Lib.hid (G_2.out.later hb)
         clear HL_2 HV_2 G_2
         clear hb hgw
         refine hK.out _ _ hH (fun hHeld => ?_)
         clear hK K0
         (try simp only [Act.put, sA, sB, sC])
         clear hH
         refine wpAnyH_ready (rs := [0]) (by kernel_rfl) (by simp) ?_
         refine AllReadyH.cons (i := 0) rfl (fun K0 hK => ?_) AllReadyH.nil
         obtain ⟨x0, x1, x2, x3, x4⟩ := (show _ ∧ _ ∧ _ ∧ _ ∧ _ from ⟨G_3.out.cell 0 rfl, G_3.out.cell 1 rfl, G_3.out.cell 2 rfl, G_3.out.cell 3 rfl, G_3.out.cell 4 rfl⟩)
         go_simp
         refine hK.out _ wq9 hHeld (fun hHeld => ?_)
         clear hK K0
         (try simp only [Act.put, sA, sB, sC])
         clear x0 x1 x2 x3 x4
         refine wpAnyH_ready (rs := [4]) (by kernel_rfl) (by simp) ?_
         refine AllReadyH.cons (i := 4) rfl (fun K0 hK => ?_) AllReadyH.nil
         go_simp
         go_at_call 13
         refine (HD1.out wq9 HV_3.out HL_3.out).mono ?_
         rintro _ wq11 ⟨V, rfl, hv, hb, hnw⟩
         obtain ⟨A4, n4, c4, B4, q4, d4, X4, xn4, xc4, Y4, yn4, yc4, t4⟩ := V
         dsimp only at hv ⊢
         have HVa := Lib.hid hv
         have hH := hHeld.trans (On.of hb (fun k hk => by (try dsimp only at hk); omega))
         replace hlo : gq < wq11.heap.size := by have := hb.size; omega
         clear HV_3
         have HL_4 := Lib.hid (HL_3.out.trans (hb.mono HL_3.out.size))
         have G_4 := Lib.hid (G_3.out.later hb)
         clear HL_3 G_3
         have HP_4 := Lib.hid (HVa.out)
         clear hb hv hnw HVa
         refine hK.out _ _ hH (fun hHeld => ?_)
         clear hK K0
         (try simp only [Act.put, sA, sB, sC])
         clear hH
         refine tk 5 25 (v := ?_) ?_ ?_
         rotate_left
         · intro w' hSw
           go_simp
           (try with_reducible rfl)
         (try simp only [Act.put, sA, sB, sC])
         refine tk 6 31 (v := ?_) ?_ ?_
         rotate_left
         · intro w' hSw
           go_simp
           (try with_reducible rfl)
         (try simp only [Act.put, sA, sB, sC])
         refine tk 7 32 (v := ?_) ?_ ?_
         rotate_left
         · intro w' hSw
           go_simp
           (try with_reducible rfl)
         (try simp only [Act.put, sA, sB, sC])
         obtain ⟨y0, y1, y2, y3, y4⟩ := (show _ ∧ _ ∧ _ ∧ _ ∧ _ from ⟨G_4.out.cell 0 rfl, G_4.out.cell 1 rfl, G_4.out.cell 2 rfl, G_4.out.cell 3 rfl, G_4.out.cell 4 rfl⟩)
         obtain ⟨f0, f1, f2, f3, f4⟩ := (show _ ∧ _ ∧ _ ∧ _ ∧ _ from ⟨G_4.out.loose 0, G_4.out.loose 1, G_4.out.loose 2, G_4.out.loose 3, G_4.out.loose 4⟩)
         refine wpAnyH_ready (rs := [8]) (by kernel_rfl) (by simp) ?_
         refine AllReadyH.cons (i := 8) rfl (fun K0 hK => ?_) AllReadyH.nil
         go_simp
         refine hK.out _ (((((wq11.setCell ⟨g, 0, none⟩ (.slice A4 n4 c4)).setCell ⟨g, 1, none⟩ (.slice B4 q4 d4)).setCell ⟨g, 2, none⟩ (.slice X4 xn4 xc4)).setCell ⟨g, 3, none⟩ (.slice Y4 yn4 yc4)).setCell ⟨g, 4, none⟩ (.int .i64 t4)) (st_on hHeld (fun e => by (try dsimp only at e); omega) (.slice A4 n4 c4) (.slice B4 q4 d4) (.slice X4 xn4 xc4) (.slice Y4 yn4 yc4) (.int .i64 t4)) (fun hHeld => ?_)
         clear hK K0
         (try simp only [Act.put, sA, sB, sC])
         clear y0 y1 y2 y3 y4 f0 f1 f2 f3 f4
         refine wpAnyH_done (by kernel_rfl) ?_ _
         clear hHeld
         go_wp2_with fail
         go_meet
         exact ⟨rfl, ⟨A4, n4, c4, B4, q4, d4, X4, xn4, xc4, Y4, yn4, yc4, t4⟩, st_put G_4.out rfl (.slice A4 n4 c4) (.slice B4 q4 d4) (.slice X4 xn4 xc4) (.slice Y4 yn4 yc4) (.int .i64 t4), sk_put (V0 := ⟨A3, n3, c3, B3, q3, d3, X3, xn3, xc3, Y3, yn3, yc3, t3⟩) HP_4.out G_4.out (.slice A4 n4 c4) (.slice B4 q4 d4) (.slice X4 xn4 xc4) (.slice Y4 yn4 yc4) (.int .i64 t4), st_below HL_4.out hg (.slice A4 n4 c4) (.slice B4 q4 d4) (.slice X4 xn4 xc4) (.slice Y4 yn4 yc4) (.int .i64 t4)⟩
    case rest =>
     obtain ⟨rfl, V5, hG5, hV5, hB5⟩ := hcut
     obtain ⟨A5, n5, c5, B5, q5, d5, X5, xn5, xc5, Y5, yn5, yc5, t5⟩ := V5
     unfold Sv.cells at hG5
     dsimp only at hG5
     have J_0 := Lib.hid hG5
     have KV_0 := Lib.hid hV5
     have KL_0 := Lib.hid hB5
     clear hG5 hV5 hB5 HL_1 HV_1 G_1 Q_1 HD1 HEV
     have e1 := KV_0.out.n
     have e3 := KV_0.out.xn
     have e4 := KV_0.out.yn
     dsimp only at e1 e3 e4
     have hn64 := GX2.out.fits.n
     have hxl := GX2.out.few
     have hyl := GX2.out.keys
     dsimp only at hn64 hxl hyl
     have hopl := GX2.out.open_
     dsimp only at hopl
     have HRI := Lib.hid (fun W (h : SkAt W ⟨A5, n5, c5, B5, q5, d5, X5, xn5, xc5, Y5, yn5, yc5, t5⟩ T9 S9 K9) => right_any A5 n5 c5 T9.acs W e1 h.accs (by omega))
     rw [show rightB T9.acs = true from GX2.out.fits.rt] at HRI
     have HSU := Lib.hid (fun W (h : SkAt W ⟨A5, n5, c5, B5, q5, d5, X5, xn5, xc5, Y5, yn5, yc5, t5⟩ T9 S9 K9) => sums_any A5 n5 c5 T9.acs W e1 h.accs (by omega))
     rw [gsum_zero (GX2.out.sums 0 (by omega)), gsum_zero (GX2.out.sums 1 (by omega)), gsum_zero (GX2.out.sums 2 (by omega))] at HSU
     have HHE := Lib.hid (fun W (h : SkAt W ⟨A5, n5, c5, B5, q5, d5, X5, xn5, xc5, Y5, yn5, yc5, t5⟩ T9 S9 K9) => eheld_any _ T9 S9 K9 W h GX2.out.ok GX2.out.pys hxl hn64)
     unfold Sv.val Sv.cells at HHE
     dsimp only at HHE
     have HOP := Lib.hid (fun W (h : SkAt W ⟨A5, n5, c5, B5, q5, d5, X5, xn5, xc5, Y5, yn5, yc5, t5⟩ T9 S9 K9) => kopen_any Y5 yn5 yc5 K9 W e4 h.kn (by omega))
     rw [hopl, e3] at HOP
     have HAK := Lib.hid (fun W (h : SkAt W ⟨A5, n5, c5, B5, q5, d5, X5, xn5, xc5, Y5, yn5, yc5, t5⟩ T9 S9 K9) (i : Nat) (g : Sg) (hg : S9[i]? = some g) => by
       have h1 := kask_any Y5 yn5 yc5 K9 g.rq W e4 h.kn (by omega)
       rw [show askR K9 g.rq = (10, 0, true) from GX2.out.waits hg] at h1
       exact h1)
     unfold AskTold at HAK
     have E3 := Lib.hid e3
     have hx16 : xn5 ≤ 16 := by omega
     clear e1 e3 e4 hopl hn64 hxl hyl
     generalize openL K9 = oL at HOP
     go_upto_region 8 with fail
     refine wp_region_held_drew (S := fun w' => Below wc.heap.size wc w') (by kernel_rfl) (Below.refl _ _).drew (fun hHeld => ?_)
     have hbd : Below wc.heap.size wc wc.drew := (Below.refl _ _).drew
     refine tk 0 33 (v := ?_) ?_ ?_
     rotate_left
     · intro w' hSw
       go_simp
       (try with_reducible rfl)
     (try simp only [Act.put, sA, sB, sC])
     refine tk 1 34 (v := ?_) ?_ ?_
     rotate_left
     · intro w' hSw
       have hSw' := hSw
       (try dsimp only at hSw')
       have hq' := hSw'
       have x0 := (J_0.out.later hq').cell 0 rfl
       go_simp
       (try with_reducible rfl)
     (try simp only [Act.put, sA, sB, sC])
     refine wpAnyH_ready (rs := [2]) (by kernel_rfl) (by simp) ?_
     refine AllReadyH.cons (i := 2) rfl (fun K0 hK => ?_) AllReadyH.nil
     (try go_simp)
     go_at_call 16
     refine (HRI.out _ (KV_0.out.below hbd)).mono ?_
     rintro _ wy ⟨rfl, hb⟩
     have hbdwy : Below wc.heap.size wc wy := hbd.trans (hb.mono hbd.size)
     refine hK.out _ _ hbdwy (fun hHeld => ?_)
     clear hK K0 hb hbd
     (try simp only [Act.put, sA, sB, sC])
     refine tk 3 36 (v := ?_) ?_ ?_
     rotate_left
     · intro w' hSw
       go_simp
       (try with_reducible rfl)
     (try simp only [Act.put, sA, sB, sC])
     refine tk 4 37 (v := ?_) ?_ ?_
     rotate_left
     · intro w' hSw
       go_simp
       (try with_reducible rfl)
     (try simp only [Act.put, sA, sB, sC])
     refine tk 5 38 (v := ?_) ?_ ?_
     rotate_left
     · intro w' hSw
       go_simp
       (try with_reducible rfl)
     (try simp only [Act.put, sA, sB, sC])
     refine tk 6 39 (v := ?_) ?_ ?_
     rotate_left
     · intro w' hSw
       have hSw' := hSw
       (try dsimp only at hSw')
       have hq' := hSw'
       have x0 := (J_0.out.later hq').cell 0 rfl
       go_simp
       (try with_reducible rfl)
     (try simp only [Act.put, sA, sB, sC])
     refine tk 8 41 (v := ?_) ?_ ?_
     rotate_left
     · intro w' hSw
       go_simp
       (try with_reducible rfl)
     (try simp only [Act.put, sA, sB, sC])
     refine wpAnyH_ready (rs := [7]) (by kernel_rfl) (by simp) ?_
     refine AllReadyH.cons (i := 7) rfl (fun K0 hK => ?_) AllReadyH.nil
     (try go_simp)
     go_at_call 17
     refine (HSU.out _ (KV_0.out.below hbdwy)).mono ?_
     rintro _ wz ⟨rfl, hb⟩
     have hbdwywz : Below wc.heap.size wc wz := hbdwy.trans (hb.mono hbdwy.size)
     refine hK.out _ _ hbdwywz (fun hHeld => ?_)
     clear hK K0 hb hbdwy
     (try simp only [Act.put, sA, sB, sC])
     have hez := fun W => arr_cmp 0 0 0 W
     refine tk 9 42 (v := ?_) ?_ ?_
     rotate_left
     · intro w' hSw
       go_simp
       (try with_reducible rfl)
     (try simp only [Act.put, sA, sB, sC])
     refine tk 10 43 (v := ?_) ?_ ?_
     rotate_left
     · intro w' hSw
       go_simp
       (try with_reducible rfl)
     (try simp only [Act.put, sA, sB, sC])
     refine tk 11 44 (v := ?_) ?_ ?_
     rotate_left
     · intro w' hSw
       go_simp
       (try with_reducible rfl)
     (try simp only [Act.put, sA, sB, sC])
     refine tk 12 45 (v := ?_) ?_ ?_
     rotate_left
     · intro w' hSw
       have hSw' := hSw
       (try dsimp only at hSw')
       have hq' := hSw'
       obtain ⟨x0, x1, x2, x3, x4⟩ := (show _ ∧ _ ∧ _ ∧ _ ∧ _ from ⟨(J_0.out.later hq').cell 0 rfl, (J_0.out.later hq').cell 1 rfl, (J_0.out.later hq').cell 2 rfl, (J_0.out.later hq').cell 3 rfl, (J_0.out.later hq').cell 4 rfl⟩)
       go_simp
       (try with_reducible rfl)
     (try simp only [Act.put, sA, sB, sC])
     refine wpAnyH_ready (rs := [13]) (by kernel_rfl) (by simp) ?_
     refine AllReadyH.cons (i := 13) rfl (fun K0 hK => ?_) AllReadyH.nil
     (try go_simp)
     go_at_call 18
     refine (HHE.out _ (KV_0.out.below hbdwywz)).mono ?_
     rintro _ wu ⟨rfl, hb⟩
     have hbdwywzwu : Below wc.heap.size wc wu := hbdwywz.trans (hb.mono hbdwywz.size)
     refine hK.out _ _ hbdwywzwu (fun hHeld => ?_)
     clear hK K0 hb hbdwywz
     (try simp only [Act.put, sA, sB, sC])
     refine tk 14 47 (v := ?_) ?_ ?_
     rotate_left
     · intro w' hSw
       go_simp
       (try with_reducible rfl)
     (try simp only [Act.put, sA, sB, sC])
     refine tk 15 48 (v := ?_) ?_ ?_
     rotate_left
     · intro w' hSw
       go_simp
       (try with_reducible rfl)
     (try simp only [Act.put, sA, sB, sC])
     refine tk 16 49 (v := ?_) ?_ ?_
     rotate_left
     · intro w' hSw
       go_simp
       (try with_reducible rfl)
     (try simp only [Act.put, sA, sB, sC])
     refine tk 17 50 (v := ?_) ?_ ?_
     rotate_left
     · intro w' hSw
       go_simp
       (try with_reducible rfl)
     (try simp only [Act.put, sA, sB, sC])
     refine tk 18 51 (v := ?_) ?_ ?_
     rotate_left
     · intro w' hSw
       have hSw' := hSw
       (try dsimp only at hSw')
       have hq' := hSw'
       have x3 := (J_0.out.later hq').cell 3 rfl
       go_simp
       (try with_reducible rfl)
     (try simp only [Act.put, sA, sB, sC])
     refine tk 21 54 (v := ?_) ?_ ?_
     rotate_left
     · intro w' hSw
       go_simp
       (try with_reducible rfl)
     (try simp only [Act.put, sA, sB, sC])
     refine tk 22 55 (v := ?_) ?_ ?_
     rotate_left
     · intro w' hSw
       have hSw' := hSw
       (try dsimp only at hSw')
       have hq' := hSw'
       have x2 := (J_0.out.later hq').cell 2 rfl
       go_simp
       (try with_reducible rfl)
     (try simp only [Act.put, sA, sB, sC])
     refine tk 23 56 (v := ?_) ?_ ?_
     rotate_left
     · intro w' hSw
       go_simp
       (try with_reducible rfl)
     (try simp only [Act.put, sA, sB, sC])
     refine wpAnyH_ready (rs := [19]) (by kernel_rfl) (by simp) ?_
     refine AllReadyH.cons (i := 19) rfl (fun K0 hK => ?_) AllReadyH.nil
     (try go_simp)
     go_at_call 19
     refine (HOP.out _ (KV_0.out.below hbdwywzwu)).mono ?_
     rintro _ wv ⟨v, rfl, hown, hb⟩
     have hbv : Below wc.heap.size wc wv := hbdwywzwu.trans (hb.mono hbdwywzwu.size)
     obtain ⟨ov, oc, rfl⟩ : ∃ (ov : Option Addr) (oc : Nat), v = .slice ov xn5 oc := by
      obtain ⟨A', c', e', _⟩ := hown.form
      exact ⟨A', c', by first | exact e' | simpa using e'⟩
     clear hown
     refine hK.out _ _ hbv (fun hHeld => ?_)
     clear hK K0 hb hbdwywzwu
     (try simp only [Act.put, sA, sB, sC])
     refine tk 20 53 (v := ?_) ?_ ?_
     rotate_left
     · intro w' hSw
       go_simp
       (try with_reducible rfl)
     (try simp only [Act.put, sA, sB, sC])
     refine tk 24 57 (v := ?_) ?_ ?_
     rotate_left
     · intro w' hSw
       go_simp
       (try with_reducible rfl)
     (try simp only [Act.put, sA, sB, sC])
     refine tk 25 58 (v := ?_) ?_ ?_
     rotate_left
     · intro w' hSw
       go_simp
       (try with_reducible rfl)
     (try simp only [Act.put, sA, sB, sC])
     refine wpAnyH_done (by kernel_rfl) ?_ _
     clear hHeld hez HRI HSU HHE HOP
     have KL_1 := Lib.hid (KL_0.out.trans (hbv.mono KL_0.out.size))
     have KV_1 := Lib.hid (KV_0.out.below hbv)
     have J_1 := Lib.hid (J_0.out.later hbv)
     clear KL_0 KV_0 J_0
     clear hbv
     have x2 := J_1.out.cell 2 rfl
     go_wp2
     go_loopw [62] (fun i wj => ∃ j : Nat, j ≤ xn5 ∧ i = .int .i64 (j : Int) ∧ Below wv.heap.size wv wj) (fun i _ => xn5 - (intOf i).toNat)
     case atStart => exact ⟨0, Nat.zero_le _, rfl, Below.refl _ _⟩
     case round =>
      obtain ⟨j, hj, rfl, hbj⟩ := hrel
      have HBJ := Lib.hid hbj
      clear hbj x2
      by_cases hltj : j < xn5
      · obtain ⟨s, hs⟩ : ∃ s, S9[j]? = some s := ⟨_, List.getElem?_eq_getElem (by rw [E3.out]; exact hltj)⟩
        obtain ⟨ad, ea, hat⟩ := (KV_1.out.below HBJ.out).sag.at_ hs
        dsimp only at ea
        subst ea
        obtain ⟨p0, p1, p2, p3, p4, p5, p6, p7, p8, p9, p10⟩ := sg_cells hat
        have HK1 := Lib.hid (fun W (h : Below wr.heap.size wr W) => HAK.out W ((KV_1.out.below HBJ.out).below h) j s hs)
        have HSR := Lib.hid (fun W => sright_any s W)
        have hrs : rightSg s := (GX2.out.sag s (List.mem_of_getElem? hs)).2.2
        rw [decide_eq_true hrs] at HSR
        obtain ⟨⟨sk, so, sa, sb, sm, slg, su⟩, sp, se, st, sy⟩ := s
        unfold Rq.val at HK1
        unfold BoolRes Sg.val at HSR
        dsimp only at p0 p1 p2 p3 p4 p5 p6 p7 p8 p9 p10 HK1 HSR
        clear hat hs hrs
        go_upto_region 13 with fail
        have BJ_0 := HBJ
        have JJ_0 := Lib.hid (J_1.out.later HBJ.out)
        clear HBJ
        have hwv : wv.heap.size ≤ wr.heap.size := BJ_0.out.size
        have al := (Below.refl wr.heap.size wr).alloc (Nat.le_refl _) (.cells #[.int .i64 sk, .int .i64 so, .int .i64 sa, .int .i64 sb, .int .i64 sm, .int .i64 slg, .int .i64 su, .int .i64 sp, .int .i64 se, .int .i64 st, .int .i64 sy] 68)
        have K1 := Lib.hid (HK1.out _ al)
        have Z0 := Lib.hid (Blk.new wr 68 #[.int .i64 sk, .int .i64 so, .int .i64 sa, .int .i64 sb, .int .i64 sm, .int .i64 slg, .int .i64 su, .int .i64 sp, .int .i64 se, .int .i64 st, .int .i64 sy])
        have BJ_1 := Lib.hid (BJ_0.out.trans (al.mono BJ_0.out.size))
        have JJ_1 := Lib.hid (JJ_0.out.later al)
        clear al p0 p1 p2 p3 p4 p5 p6 p7 p8 p9 p10 BJ_0 JJ_0 HK1
        generalize wr.alloc (.cells #[.int .i64 sk, .int .i64 so, .int .i64 sa, .int .i64 sb, .int .i64 sm, .int .i64 slg, .int .i64 su, .int .i64 sp, .int .i64 se, .int .i64 st, .int .i64 sy] 68) = wb at K1 Z0 BJ_1 JJ_1 ⊢
        have x3 := JJ_1.out.cell 3 rfl
        obtain ⟨p0, p1, p2, p3, p4, p5, p6, p7, p8, p9, p10⟩ := (show _ ∧ _ ∧ _ ∧ _ ∧ _ ∧ _ ∧ _ ∧ _ ∧ _ ∧ _ ∧ _ from ⟨Z0.out.cell 0 rfl, Z0.out.cell 1 rfl, Z0.out.cell 2 rfl, Z0.out.cell 3 rfl, Z0.out.cell 4 rfl, Z0.out.cell 5 rfl, Z0.out.cell 6 rfl, Z0.out.cell 7 rfl, Z0.out.cell 8 rfl, Z0.out.cell 9 rfl, Z0.out.cell 10 rfl⟩)
        go_upto_region 14 with (first
          | (go_at_call 20; refine K1.out.mono ?_; rintro _ wc ⟨rfl, hb⟩
             have HXc := Lib.hid hb
             clear hb x3 p0 p1 p2 p3 p4 p5 p6 p7 p8 p9 p10))
        clear K1
        have Z1 := Lib.hid (Z0.out.later HXc.out)
        have BJ_2 := Lib.hid (BJ_1.out.trans (HXc.out.mono BJ_1.out.size))
        clear Z0 BJ_1 JJ_1 HXc
        have al := (Below.refl wc.heap.size wc).alloc (Nat.le_refl _) (.cells #[.int .i64 10, .int .i64 0] 46)
        have P0 := Lib.hid (Blk.new wc 46 #[.int .i64 10, .int .i64 0])
        have Z2 := Lib.hid (Z1.out.later al)
        have BJ_3 := Lib.hid (BJ_2.out.trans (al.mono BJ_2.out.size))
        clear al Z1 BJ_2
        generalize wc.alloc (.cells #[.int .i64 10, .int .i64 0] 46) = wd at P0 Z2 BJ_3 ⊢
        obtain ⟨z0, z1⟩ := (show _ ∧ _ from ⟨P0.out.cell 0 rfl, P0.out.cell 1 rfl⟩)
        obtain ⟨p0, p1, p2, p3, p4, p5, p6, p7, p8, p9, p10⟩ := (show _ ∧ _ ∧ _ ∧ _ ∧ _ ∧ _ ∧ _ ∧ _ ∧ _ ∧ _ ∧ _ from ⟨Z2.out.cell 0 rfl, Z2.out.cell 1 rfl, Z2.out.cell 2 rfl, Z2.out.cell 3 rfl, Z2.out.cell 4 rfl, Z2.out.cell 5 rfl, Z2.out.cell 6 rfl, Z2.out.cell 7 rfl, Z2.out.cell 8 rfl, Z2.out.cell 9 rfl, Z2.out.cell 10 rfl⟩)
        go_wp2_with (first
          | (go_at_call 21; refine (HSR.out _).mono ?_; rintro _ we ⟨rfl, hb⟩
             have BJ_4 := Lib.hid (BJ_3.out.trans (hb.mono BJ_3.out.size))
             clear hb z0 z1 p0 p1 p2 p3 p4 p5 p6 p7 p8 p9 p10))
        go_roundw
        · exact ⟨j + 1, by omega, by first | rfl | (congr 1; omega), BJ_4.out⟩
        · simp [intOf]; omega
      · go_wp2
        go_roundw
        · exact ⟨k + 1, ⟨A5, n5, c5, B5, q5, d5, X5, xn5, xc5, Y5, yn5, yc5, t5⟩, ⟨T9, S9, K9⟩, by omega, by first | rfl | (congr 1; omega), J_1.out.later HBJ.out, KV_1.out.below HBJ.out, GX2.out, KL_1.out.trans (HBJ.out.mono KL_1.out.size)⟩
        · simp [intOf]; omega
  · obtain rfl : k = l1 := by omega
    go_wp2
    go_ret
    exact ⟨rfl, HL_0.out⟩
theorem engineRight_walk (w : World) (v0 : Value) (w0 : BookAt w v0) (a1 : Option Addr) (len1 cap1 : Nat) (w1 : IsRecs paids Pd.fits w a1 len1 cap1) (r1 : cap1 ≤ 1048576) (a2 : Option Addr) (len2 cap2 : Nat) (w2 : IsRecs eacts EA.fits w a2 len2 cap2) (r2 : cap2 ≤ 1048576) (hh : HasErr w) :
  Calls Tryz.prog 4 #[v0, .slice a1 len1 cap1, .slice a2 len2 cap2] w fun e w' => e = .returned (.bool true) ∧ Below w.heap.size w w' := by
 obtain ⟨zs, pl, pr, pf, plc, _, _⟩ := recs_list w1
 obtain ⟨zk, kl, kr, kf, klc, _, _⟩ := recs_list w2
 exact engineRight_core w v0 w0 a1 len1 cap1 zs pl pr pf (by omega) a2 len2 cap2 zk kl kr kf (by omega) hh
end Go.Proofs.YteifgmdaggiaaaaGreatDoor
