/-
  The law EngineWhole: where each request comes to its end ahead of the next one, an engine does and tells what a bank does.
-/
import Derived.Test.YteifgmdaggiaaaaGreatDoorWEngAwake
import Derived.Test.YteifgmdaggiaaaaGreatDoorWEngWholePlain
import Derived.Test.YteifgmdaggiaaaaGreatDoorWBankDo
import Derived.Test.YteifgmdaggiaaaaGreatDoorWBankSame
import Derived.Test.YteifgmdaggiaaaaGreatDoorWGrP
import Derived.Test.YteifgmdaggiaaaaGreatDoorWBoolBack
import Derived.Deep.CutRange
set_option linter.unusedSimpArgs false
namespace Go.Proofs.YteifgmdaggiaaaaGreatDoor
open Go Go.RowKit
set_option linter.unusedVariables false
theorem egO_subW {X : Eg} {e : Ev} (h : e.what = 0) : egO X e = subO X e.rq := by unfold egO egOT; rw [if_pos h]
theorem egO_stpW {X : Eg} {e : Ev} (h : e.what = 1) : egO X e = stpO X e.key e.ok := by unfold egO egOT; rw [if_neg (by omega), if_pos h]
theorem legK_yes {ls : List Bool} {j : Nat} (h : ls.length ≤ j) : legK ls j = true := by unfold legK; rw [if_pos h]
theorem legK_at {ls : List Bool} {j : Nat} {x : Bool} (h : ls[j]? = some x) : legK ls j = x := by
 have hl := (List.getElem?_eq_some_iff.1 h).1
 unfold legK
 rw [if_neg (by omega), List.getD_eq_getElem?_getD, h, Option.getD_some]
set_option maxRecDepth 100000 in
set_option maxHeartbeats 4000000 in
theorem engineWhole_core (w : World) (b : Value) (hb : BookAt w b) (a1 : Option Addr) (lz1 cz1 : Nat) (zs : List Pd) (hzl : zs.length = lz1) (hr : RdS paids w a1 zs) (hfit : ∀ (j : Nat) z, zs[j]? = some z → z.fits) (hl : lz1 ≤ 1900000)
  (ak : Option Addr) (lz3 cz3 : Nat) (zk : List Ak) (hkl : zk.length = lz3) (hk : RdS asks w ak zk) (hkf : ∀ (j : Nat) z, zk[j]? = some z → z.fits) (hl3 : lz3 ≤ 1900000)
  (la : Option Addr) (ln lc : Nat) (ls : List Bool) (hls : RdS flags w la ls) (hln : ls.length = ln) (hlc : ln ≤ lc) (hm : lc ≤ 1900000) (hh : HasErr w) :
  Calls Tryz.prog 3 #[b, .slice a1 lz1 cz1, .slice ak lz3 cz3, .slice la ln lc] w fun e w' => e = .returned (.bool true) ∧ Below w.heap.size w w' := by
 have HST := Lib.hid (fun W (hW : Below w.heap.size w W) => state_any hb a1 lz1 cz1 zs hzl 0 (by decide) hl W hW (hr.below hW) hfit)
 have HAW := Lib.hid (fun W (hW : Below w.heap.size w W) => eawake_ok W (hh.below hW))
 have HH := Lib.hid hh
 have HLS := Lib.hid hls
 have HLN := Lib.hid hln
 have HZK := Lib.hid hk
 have HKL := Lib.hid hkl
 have HKF := Lib.hid hkf
 obtain ⟨CA, HA, LA, cl, cc, hl', hc, ll, lc', cs, hs, ls', rfl, h1, h2, h3, h4, h5, h6, h7, h8, h9⟩ := hb.form
 unfold Sv.val Sv.cells at HST
 clear h1 h2 h3 h4 h5 h6 h7 h8 h9 hb hzl hr hfit hk hkl hkf hls hln hh
 go_enter Tryz.func3, Tryz.ntmps3
 go_wp2_with fail
 refine (HAW.out _ ((Below.refl w.heap.size w).alloc (Nat.le_refl _) (.cells #[.slice CA cl cc, .slice HA hl' hc, .slice LA ll lc'] 25))).mono ?_
 rintro _ wa ⟨rfl, hba⟩
 have HBk := Lib.hid ((Blk.new w 25 #[.slice CA cl cc, .slice HA hl' hc, .slice LA ll lc']).later hba)
 have HWA := Lib.hid (((Below.refl w.heap.size w).alloc (Nat.le_refl _) (.cells #[.slice CA cl cc, .slice HA hl' hc, .slice LA ll lc'] 25)).trans (hba.mono (by simp)))
 clear hba HAW
 obtain ⟨b0, b1, b2⟩ := (show _ ∧ _ ∧ _ from ⟨HBk.out.cell 0 rfl, HBk.out.cell 1 rfl, HBk.out.cell 2 rfl⟩)
 go_wp2_with fail
 refine (HST.out _ HWA.out).mono ?_
 rintro _ w1 ⟨V1, s0, rfl, hv1, hmd, hb1⟩
 have HL_0 := Lib.hid (HWA.out.trans (hb1.mono HWA.out.size))
 have GD0 := Lib.hid (good_new hmd.ok (by have h1 := hmd.pays; omega))
 have HV_0 := Lib.hid hv1.sk
 obtain ⟨A1, n1, c1, B1, q1, d1, X1, xn1, xc1, Y1, yn1, yc1, t1⟩ := V1
 dsimp only at HV_0 ⊢
 clear hv1 hb1 hmd HST HWA HBk b0 b1 b2
 have hg : w.heap.size ≤ w1.heap.size := HL_0.out.size
 go_upto_region 5 with fail
 have al := (Below.refl w1.heap.size w1).alloc (Nat.le_refl _) (.cells #[.slice A1 n1 c1, .slice B1 q1 d1, .slice X1 xn1 xc1, .slice Y1 yn1 yc1, .int .i64 t1] 35)
 replace al := al.alloc (by simp; try omega) (.cells #[.slice A1 n1 c1, .slice B1 q1 d1, .slice X1 xn1 xc1, .slice Y1 yn1 yc1, .int .i64 t1] 35)
 have nb0 := (Blk.new w1 35 #[.slice A1 n1 c1, .slice B1 q1 d1, .slice X1 xn1 xc1, .slice Y1 yn1 yc1, .int .i64 t1]).more (.cells #[.slice A1 n1 c1, .slice B1 q1 d1, .slice X1 xn1 xc1, .slice Y1 yn1 yc1, .int .i64 t1] 35)
 have nb1 := Blk.new (w1.alloc (.cells #[.slice A1 n1 c1, .slice B1 q1 d1, .slice X1 xn1 xc1, .slice Y1 yn1 yc1, .int .i64 t1] 35)) 35 #[.slice A1 n1 c1, .slice B1 q1 d1, .slice X1 xn1 xc1, .slice Y1 yn1 yc1, .int .i64 t1]
 rw [alloc_size] at nb1
 have HL_1 := Lib.hid (HL_0.out.trans (al.mono HL_0.out.size))
 have HV_1 := Lib.hid (HV_0.out.below al)
 clear al HL_0 HV_0
 have S_1 := Lib.hid (nb0)
 have G_1 := Lib.hid (nb1)
 clear nb0 nb1
 generalize (w1.alloc (.cells #[.slice A1 n1 c1, .slice B1 q1 d1, .slice X1 xn1 xc1, .slice Y1 yn1 yc1, .int .i64 t1] 35)).alloc (.cells #[.slice A1 n1 c1, .slice B1 q1 d1, .slice X1 xn1 xc1, .slice Y1 yn1 yc1, .int .i64 t1] 35) = w2 at HL_1 HV_1 S_1 G_1 ⊢
 generalize w1.heap.size = g at S_1 G_1 hg ⊢
 go_wp2
 go_loopw [3, 29] (fun lv i wr => ∃ (k : Nat) (V W : Sv) (T : St) (kl : List Kn) (la' : Option Addr) (ln' lc'' : Nat) (lx : List Bool), k ≤ lz3 ∧ i = .int .i64 (k : Int) ∧ lv = .slice la' ln' lc'' ∧ Blk wr g 35 V.cells ∧ Blk wr (g + 1) 35 W.cells ∧ SkAt wr V T [] kl ∧ SkAt wr W T [] kl ∧ GoodX ⟨T, [], kl⟩ ∧ Quiet kl ∧ RdS flags w la' lx ∧ lx.length = ln' ∧ ln' ≤ lc'' ∧ lc'' ≤ 1900000 ∧ Below w.heap.size w wr) (fun _ i _ => lz3 - (intOf i).toNat)
 case atStart => exact ⟨0, ⟨A1, n1, c1, B1, q1, d1, X1, xn1, xc1, Y1, yn1, yc1, t1⟩, ⟨A1, n1, c1, B1, q1, d1, X1, xn1, xc1, Y1, yn1, yc1, t1⟩, s0, [], la, ln, lc, ls, Nat.zero_le _, rfl, rfl, S_1.out, G_1.out, HV_1.out, HV_1.out, GD0.out, (fun k hk => by cases hk), HLS.out, HLN.out, hlc, hm, HL_1.out⟩
 case round =>
  obtain ⟨k, V, W, T, kl, la', ln', lc'', lx, hk, rfl, rfl, hS, hG, hV, hW, hGX, hQ, hF, hFn, hFc, hFm, hB⟩ := hrel
  obtain ⟨A2, n2, c2, B2, q2, d2, X2, xn2, xc2, Y2, yn2, yc2, t2⟩ := V
  obtain ⟨A3, n3, c3, B3, q3, d3, X3, xn3, xc3, Y3, yn3, yc3, t3⟩ := W
  unfold Sv.cells at hS hG
  dsimp only at hS hG
  have S_0 := Lib.hid hS
  have G_0 := Lib.hid hG
  have HV_0 := Lib.hid hV
  have HW_0 := Lib.hid hW
  have HL_0 := Lib.hid hB
  have GX := Lib.hid hGX
  have QU := Lib.hid hQ
  have FL := Lib.hid hF
  have FN := Lib.hid hFn
  clear hS hG hV hW hB hGX hQ hF hFn HL_1 HV_1 S_1 G_1
  by_cases hlt : k < lz3
  · obtain ⟨z, hz⟩ : ∃ z, zk[k]? = some z := ⟨_, List.getElem?_eq_getElem (by rw [HKL.out]; exact hlt)⟩
    obtain ⟨ad, rfl, hat⟩ := (HZK.out.below HL_0.out).at_ hz
    obtain ⟨p0, p1, p2, p3, p4, p5, p6⟩ := ask_cells hat
    have HAS := Lib.hid (fun W => ask_any z (HKF.out k z hz) W)
    obtain ⟨r, hrq⟩ : ∃ q, z.req = q := ⟨_, rfl⟩
    rw [hrq] at HAS
    have hfk : kl.length ≤ 900000 := by have := GX.out.keys; dsimp only at this; omega
    have HB1 := Lib.hid (fun W (h1 : SkAt W ⟨A3, n3, c3, B3, q3, d3, X3, xn3, xc3, Y3, yn3, yc3, t3⟩ T [] kl) (h2 : Below w.heap.size w W) => bdo_any ⟨A3, n3, c3, B3, q3, d3, X3, xn3, xc3, Y3, yn3, yc3, t3⟩ T [] kl r W la' ln' lc'' lx h1 GX.out.fits (HH.out.below h2) (FL.out.below h2) FN.out (by omega) (by omega))
    unfold BkRes at HB1
    have HD1 := Lib.hid (fun W (h1 : SkAt W ⟨A2, n2, c2, B2, q2, d2, X2, xn2, xc2, Y2, yn2, yc2, t2⟩ T [] kl) (h2 : Below w.heap.size w W) => edo_full ⟨A2, n2, c2, B2, q2, d2, X2, xn2, xc2, Y2, yn2, yc2, t2⟩ T [] kl ⟨0, r, 0, false⟩ W h1 GX.out.fits hfk (HH.out.below h2) (fun h => by cases h))
    have hgx := GX.out.ev ⟨0, r, 0, false⟩
    rw [egO_subW rfl] at HD1 hgx
    unfold EgB at HD1
    dsimp only at HD1 hgx
    have hwh := whole_is (T := T) QU.out r lx
    have hble := bkO_le T kl r lx
    have hqu := QU.out.bk (T := T) r lx
    generalize bkO T kl r lx = Z at HB1 hwh hble hqu
    obtain ⟨T9, K9, E9, I9, N9⟩ := Z
    dsimp only at HB1 hwh hble hqu
    generalize subO ⟨T, [], kl⟩ r = O0 at HD1 hgx hwh
    have HWH := Lib.hid hwh
    have HLE := Lib.hid hble
    have QU2 := Lib.hid hqu
    have GX2 := Lib.hid hgx
    obtain ⟨⟨T4, S4, K4⟩, E4, I4⟩ := O0
    dsimp only at HD1
    obtain ⟨rk, ro, ra, rb, rm, rl, ru⟩ := r
    obtain ⟨key, op, qa, qb, amt, legs, til⟩ := z
    unfold AskRes Ak.val Rq.val at HAS
    unfold Sv.val Sv.cells Rq.val at HB1
    unfold Sv.val Sv.cells Ev.cells at HD1
    dsimp only at p0 p1 p2 p3 p4 p5 p6 HAS HB1 HD1
    clear hat hz hrq hwh hble hqu hgx hfk GX QU
    go_upto_region 8 with fail
    have al := (Below.refl wr.heap.size wr).alloc (Nat.le_refl _) (.cells #[.int .u8 (key : Int), .int .u8 (op : Int), .int .u8 (qa : Int), .int .u8 (qb : Int), .int .u16 (amt : Int), .int .u8 (legs : Int), .int .u8 (til : Int)] 39)
    have nb0 := Blk.new wr 39 #[.int .u8 (key : Int), .int .u8 (op : Int), .int .u8 (qa : Int), .int .u8 (qb : Int), .int .u16 (amt : Int), .int .u8 (legs : Int), .int .u8 (til : Int)]
    have HL_1 := Lib.hid (HL_0.out.trans (al.mono HL_0.out.size))
    have HV_1 := Lib.hid (HV_0.out.below al)
    have HW_1 := Lib.hid (HW_0.out.below al)
    have S_1 := Lib.hid (S_0.out.later al)
    have G_1 := Lib.hid (G_0.out.later al)
    clear al HL_0 HV_0 HW_0 S_0 G_0
    have Q_1 := Lib.hid (nb0)
    clear nb0
    generalize wr.alloc (.cells #[.int .u8 (key : Int), .int .u8 (op : Int), .int .u8 (qa : Int), .int .u8 (qb : Int), .int .u16 (amt : Int), .int .u8 (legs : Int), .int .u8 (til : Int)] 39) = wb at HL_1 HV_1 HW_1 S_1 G_1 Q_1 ⊢
    clear p0 p1 p2 p3 p4 p5 p6
    obtain ⟨r0, r1, r2, r3, r4, r5, r6⟩ := (show _ ∧ _ ∧ _ ∧ _ ∧ _ ∧ _ ∧ _ from ⟨Q_1.out.cell 0 rfl, Q_1.out.cell 1 rfl, Q_1.out.cell 2 rfl, Q_1.out.cell 3 rfl, Q_1.out.cell 4 rfl, Q_1.out.cell 5 rfl, Q_1.out.cell 6 rfl⟩)
    go_wp2_with fail
    refine (HAS.out _).mono ?_
    rintro _ wc ⟨rfl, hbc⟩
    clear Q_1
    have HL_2 := Lib.hid (HL_1.out.trans (hbc.mono HL_1.out.size))
    have HV_2 := Lib.hid (HV_1.out.below hbc)
    have HW_2 := Lib.hid (HW_1.out.below hbc)
    have S_2 := Lib.hid (S_1.out.later hbc)
    have G_2 := Lib.hid (G_1.out.later hbc)
    clear HL_1 HV_1 HW_1 S_1 G_1
    clear r0 r1 r2 r3 r4 r5 r6 hbc HAS
    have hgc : g + 1 < wc.heap.size := G_2.out.lt
    go_upto_region 9 with fail
    have al := (Below.refl wc.heap.size wc).alloc (Nat.le_refl _) (.cells #[.int .i64 rk, .int .i64 ro, .int .i64 ra, .int .i64 rb, .int .i64 rm, .int .i64 rl, .int .i64 ru] 42)
    have nb0 := Blk.new wc 42 #[.int .i64 rk, .int .i64 ro, .int .i64 ra, .int .i64 rb, .int .i64 rm, .int .i64 rl, .int .i64 ru]
    have HL_3 := Lib.hid (HL_2.out.trans (al.mono HL_2.out.size))
    have HV_3 := Lib.hid (HV_2.out.below al)
    have HW_3 := Lib.hid (HW_2.out.below al)
    have S_3 := Lib.hid (S_2.out.later al)
    have G_3 := Lib.hid (G_2.out.later al)
    clear al HL_2 HV_2 HW_2 S_2 G_2
    have R_3 := Lib.hid (nb0)
    clear nb0
    generalize wc.alloc (.cells #[.int .i64 rk, .int .i64 ro, .int .i64 ra, .int .i64 rb, .int .i64 rm, .int .i64 rl, .int .i64 ru] 42) = wd at HL_3 HV_3 HW_3 S_3 G_3 R_3 ⊢
    generalize wc.heap.size = gr at R_3 hgc ⊢
    have B1 := Lib.hid (HB1.out wd HW_3.out HL_3.out)
    obtain ⟨r0, r1, r2, r3, r4, r5, r6⟩ := (show _ ∧ _ ∧ _ ∧ _ ∧ _ ∧ _ ∧ _ from ⟨R_3.out.cell 0 rfl, R_3.out.cell 1 rfl, R_3.out.cell 2 rfl, R_3.out.cell 3 rfl, R_3.out.cell 4 rfl, R_3.out.cell 5 rfl, R_3.out.cell 6 rfl⟩)
    obtain ⟨x0, x1, x2, x3, x4⟩ := (show _ ∧ _ ∧ _ ∧ _ ∧ _ from ⟨G_3.out.cell 0 rfl, G_3.out.cell 1 rfl, G_3.out.cell 2 rfl, G_3.out.cell 3 rfl, G_3.out.cell 4 rfl⟩)
    go_upto_region 10 with (first
      | (go_at_call 12; refine B1.out.mono ?_; rintro _ we ⟨V, rfl, hv, hb, -⟩
         obtain ⟨A5, n5, c5, B5, q5, d5, X5, xn5, xc5, Y5, yn5, yc5, t5⟩ := V
         dsimp only at hv ⊢
         have HVa := Lib.hid hv
         have HXe := Lib.hid hb
         clear hv hb x0 x1 x2 x3 x4 r0 r1 r2 r3 r4 r5 r6))
    clear HW_3
    have HL_4 := Lib.hid (HL_3.out.trans (HXe.out.mono HL_3.out.size))
    have HV_4 := Lib.hid (HV_3.out.below HXe.out)
    have S_4 := Lib.hid (S_3.out.later HXe.out)
    have G_4 := Lib.hid (G_3.out.later HXe.out)
    have R_4 := Lib.hid (R_3.out.later HXe.out)
    clear HL_3 HV_3 S_3 G_3 R_3
    have HU_4 := Lib.hid (HVa.out)
    clear HVa HXe B1 HB1
    have hre : gr < we.heap.size := R_4.out.lt
    have al := (Below.refl we.heap.size we).alloc (Nat.le_refl _) (.cells #[.slice A5 n5 c5, .slice B5 q5 d5, .slice X5 xn5 xc5, .slice Y5 yn5 yc5, .int .i64 t5] 35)
    replace al := al.alloc (by simp; try omega) (.cells #[.int .i64 E9, .int .i64 I9] 46)
    have nb0 := (Blk.new we 35 #[.slice A5 n5 c5, .slice B5 q5 d5, .slice X5 xn5 xc5, .slice Y5 yn5 yc5, .int .i64 t5]).more (.cells #[.int .i64 E9, .int .i64 I9] 46)
    have nb1 := Blk.new (we.alloc (.cells #[.slice A5 n5 c5, .slice B5 q5 d5, .slice X5 xn5 xc5, .slice Y5 yn5 yc5, .int .i64 t5] 35)) 46 #[.int .i64 E9, .int .i64 I9]
    rw [alloc_size] at nb1
    have HL_5 := Lib.hid (HL_4.out.trans (al.mono HL_4.out.size))
    have HV_5 := Lib.hid (HV_4.out.below al)
    have S_5 := Lib.hid (S_4.out.later al)
    have G_5 := Lib.hid (G_4.out.later al)
    have R_5 := Lib.hid (R_4.out.later al)
    have HU_5 := Lib.hid (HU_4.out.below al)
    clear al HL_4 HV_4 S_4 G_4 R_4 HU_4
    have U_5 := Lib.hid (nb0)
    have P_5 := Lib.hid (nb1)
    clear nb0 nb1
    generalize (we.alloc (.cells #[.slice A5 n5 c5, .slice B5 q5 d5, .slice X5 xn5 xc5, .slice Y5 yn5 yc5, .int .i64 t5] 35)).alloc (.cells #[.int .i64 E9, .int .i64 I9] 46) = wf at HL_5 HV_5 S_5 G_5 R_5 HU_5 U_5 P_5 ⊢
    generalize we.heap.size = gu at U_5 P_5 hre ⊢
    have D1 := Lib.hid (HD1.out wf HV_5.out HL_5.out)
    obtain ⟨r0, r1, r2, r3, r4, r5, r6⟩ := (show _ ∧ _ ∧ _ ∧ _ ∧ _ ∧ _ ∧ _ from ⟨R_5.out.cell 0 rfl, R_5.out.cell 1 rfl, R_5.out.cell 2 rfl, R_5.out.cell 3 rfl, R_5.out.cell 4 rfl, R_5.out.cell 5 rfl, R_5.out.cell 6 rfl⟩)
    obtain ⟨x0, x1, x2, x3, x4⟩ := (show _ ∧ _ ∧ _ ∧ _ ∧ _ from ⟨S_5.out.cell 0 rfl, S_5.out.cell 1 rfl, S_5.out.cell 2 rfl, S_5.out.cell 3 rfl, S_5.out.cell 4 rfl⟩)
    go_upto_region 11 with (first
      | (go_at_call 13; refine D1.out.mono ?_; rintro _ wg ⟨V, rfl, hv, hb, hnw⟩
         obtain ⟨A4, n4, c4, B4, q4, d4, X4, xn4, xc4, Y4, yn4, yc4, t4⟩ := V
         dsimp only at hv ⊢
         have HVa := Lib.hid hv
         have HXe := Lib.hid hb
         clear hv hb hnw x0 x1 x2 x3 x4 r0 r1 r2 r3 r4 r5 r6))
    clear HV_5
    have HL_6 := Lib.hid (HL_5.out.trans (HXe.out.mono HL_5.out.size))
    have S_6 := Lib.hid (S_5.out.later HXe.out)
    have G_6 := Lib.hid (G_5.out.later HXe.out)
    have R_6 := Lib.hid (R_5.out.later HXe.out)
    have HU_6 := Lib.hid (HU_5.out.below HXe.out)
    have U_6 := Lib.hid (U_5.out.later HXe.out)
    have P_6 := Lib.hid (P_5.out.later HXe.out)
    clear HL_5 S_5 G_5 R_5 HU_5 U_5 P_5
    have HX_6 := Lib.hid (HVa.out)
    clear HVa HXe D1 HD1
    have huw : gu + 1 < wg.heap.size := P_6.out.lt
    have HY := HX_6
    have al := (Below.refl wg.heap.size wg).alloc (Nat.le_refl _) (.cells #[.slice A4 n4 c4, .slice B4 q4 d4, .slice X4 xn4 xc4, .slice Y4 yn4 yc4, .int .i64 t4] 35)
    replace al := al.alloc (by simp; try omega) (.cells #[.int .i64 E4, .int .i64 I4] 46)
    have nb0 := (Blk.new wg 35 #[.slice A4 n4 c4, .slice B4 q4 d4, .slice X4 xn4 xc4, .slice Y4 yn4 yc4, .int .i64 t4]).more (.cells #[.int .i64 E4, .int .i64 I4] 46)
    have nb1 := Blk.new (wg.alloc (.cells #[.slice A4 n4 c4, .slice B4 q4 d4, .slice X4 xn4 xc4, .slice Y4 yn4 yc4, .int .i64 t4] 35)) 46 #[.int .i64 E4, .int .i64 I4]
    rw [alloc_size] at nb1
    have X_0 := Lib.hid nb0
    have O_0 := Lib.hid nb1
    have HX_0 := Lib.hid (HY.out.below al)
    have HA := Lib.hid al
    clear al nb0 nb1 HY HX_6
    generalize (wg.alloc (.cells #[.slice A4 n4 c4, .slice B4 q4 d4, .slice X4 xn4 xc4, .slice Y4 yn4 yc4, .int .i64 t4] 35)).alloc (.cells #[.int .i64 E4, .int .i64 I4] 46) = wn at X_0 O_0 HX_0 HA ⊢
    obtain ⟨gx, hgx⟩ : ∃ b, b = wg.heap.size := ⟨_, rfl⟩
    have HGX := Lib.hid hgx
    rw [← hgx] at X_0 O_0 huw ⊢
    clear hgx
    go_wp2
    go_loopw [19] (fun i wj => ∃ (j : Nat) (V : Sv) (O : Eo), j ≤ 40 ∧ i = .int .i64 (j : Int) ∧ Below gx wg wj ∧ Blk wj gx 35 V.cells ∧ Blk wj (gx + 1) 46 #[.int .i64 O.E, .int .i64 O.I] ∧ SkAt wj V O.X.T O.X.sl O.X.kl ∧ GoodX O.X ∧ whl lx rk (40 - j) j O = ⟨⟨T9, [], K9⟩, E9, I9⟩) (fun i _ => 40 - (intOf i).toNat)
    case atStart => exact ⟨0, ⟨A4, n4, c4, B4, q4, d4, X4, xn4, xc4, Y4, yn4, yc4, t4⟩, ⟨⟨T4, S4, K4⟩, E4, I4⟩, Nat.zero_le _, rfl, by rw [HGX.out]; exact HA.out, X_0.out, O_0.out, HX_0.out, GX2.out, HWH.out⟩
    case round =>
     obtain ⟨j, V, O, hj, rfl, hbj, hX, hO, hV, hgd, hwl⟩ := hrel
     obtain ⟨A6, n6, c6, B6, q6, d6, X6, xn6, xc6, Y6, yn6, yc6, t6⟩ := V
     obtain ⟨⟨T6, S6, K6⟩, E6, I6⟩ := O
     unfold Sv.cells at hX
     dsimp only at hX hO hV hgd
     have X_1 := Lib.hid hX
     have O_1 := Lib.hid hO
     have HX_1 := Lib.hid hV
     have HBJ := Lib.hid hbj
     have GD := Lib.hid hgd
     have HWL := Lib.hid hwl
     clear hX hO hV hbj hgd hwl X_0 O_0 HX_0 HA
     have HLJ := Lib.hid (HL_6.out.trans ((by rw [← HGX.out]; exact HBJ.out : Below wg.heap.size wg wr).mono HL_6.out.size))
     have RJ := Lib.hid (R_6.out.later (by rw [← HGX.out]; exact HBJ.out : Below wg.heap.size wg wr))
     obtain ⟨z0, z1⟩ := (show _ ∧ _ from ⟨O_1.out.cell 0 rfl, O_1.out.cell 1 rfl⟩)
     by_cases hgo : E6 = 10 ∧ j < 40
     · obtain ⟨rfl, hj40⟩ := hgo
       have j0 := decide_eq_true (show (j : Int) < 40 by omega)
       have j0' := decide_eq_true hj40
       go_upto_region 14 with fail
       clear z0 z1
       by_cases hleg : ln' ≤ j
       · have j1 := decide_eq_true (show (ln' : Int) ≤ (j : Int) by omega)
         have j1' := decide_eq_true hleg
         obtain ⟨x, hx⟩ : ∃ x, legK lx j = x := ⟨_, rfl⟩
         have hxt : x = true := by rw [← hx]; exact legK_yes (by rw [FN.out]; exact hleg)
         go_upto_region 15 with fail
         have HD2 := Lib.hid (edo_full ⟨A6, n6, c6, B6, q6, d6, X6, xn6, xc6, Y6, yn6, yc6, t6⟩ T6 S6 K6 ⟨1, Rq.zero, rk, true⟩ wr HX_1.out GD.out.fits (by have := GD.out.keys; dsimp only at this; omega) (HH.out.below HLJ.out) (fun h => by cases h))
         have GD2 := Lib.hid (GD.out.ev ⟨1, Rq.zero, rk, true⟩)
         rw [egO_stpW rfl] at HD2 GD2
         have hwl2 : whl lx rk (40 - (j + 1)) (j + 1) (stpO ⟨T6, S6, K6⟩ rk true) = ⟨⟨T9, [], K9⟩, E9, I9⟩ := by
          have h1 := HWL.out
          rw [show 40 - j = (40 - (j + 1)) + 1 by omega, whl_go _ _ _ _ rfl] at h1
          dsimp only at h1
          rwa [hx, hxt] at h1
         have HWL2 := Lib.hid hwl2
         clear hwl2
         unfold EgB Sv.val Sv.cells Ev.cells Rq.zero at HD2
         dsimp only at HD2 GD2 HWL2
         generalize stpO ⟨T6, S6, K6⟩ rk true = OE at HD2 GD2 HWL2
         obtain ⟨⟨T7, S7, K7⟩, E7, I7⟩ := OE
         dsimp only at HD2
         obtain ⟨x0, x1, x2, x3, x4⟩ := (show _ ∧ _ ∧ _ ∧ _ ∧ _ from ⟨X_1.out.cell 0 rfl, X_1.out.cell 1 rfl, X_1.out.cell 2 rfl, X_1.out.cell 3 rfl, X_1.out.cell 4 rfl⟩)
         have r0 := RJ.out.cell 0 rfl
         obtain ⟨z0, z1⟩ := (show _ ∧ _ from ⟨O_1.out.cell 0 rfl, O_1.out.cell 1 rfl⟩)
         obtain ⟨f0, f1, f2, f3, f4⟩ := (show _ ∧ _ ∧ _ ∧ _ ∧ _ from ⟨X_1.out.loose 0, X_1.out.loose 1, X_1.out.loose 2, X_1.out.loose 3, X_1.out.loose 4⟩)
         obtain ⟨e0, e1⟩ := (show _ ∧ _ from ⟨O_1.out.loose 0, O_1.out.loose 1⟩)
         go_wp2_with (first
           | (go_at_call 13; refine HD2.out.mono ?_; rintro _ wh ⟨V, rfl, hv, hb, hnw⟩
              obtain ⟨A7, n7, c7, B7, q7, d7, X7, xn7, xc7, Y7, yn7, yc7, t7⟩ := V
              dsimp only at hv ⊢
              have HVa := Lib.hid hv
              have HXe := Lib.hid hb
              have X_2 := Lib.hid (X_1.out.later hb)
              have O_2 := Lib.hid (O_1.out.later hb)
              clear hv hb hnw x0 x1 x2 x3 x4 f0 f1 f2 f3 f4 r0 z0 z1 e0 e1
              obtain ⟨x0, x1, x2, x3, x4⟩ := (show _ ∧ _ ∧ _ ∧ _ ∧ _ from ⟨X_2.out.cell 0 rfl, X_2.out.cell 1 rfl, X_2.out.cell 2 rfl, X_2.out.cell 3 rfl, X_2.out.cell 4 rfl⟩)
              obtain ⟨f0, f1, f2, f3, f4⟩ := (show _ ∧ _ ∧ _ ∧ _ ∧ _ from ⟨X_2.out.loose 0, X_2.out.loose 1, X_2.out.loose 2, X_2.out.loose 3, X_2.out.loose 4⟩)
              obtain ⟨z0, z1⟩ := (show _ ∧ _ from ⟨O_2.out.cell 0 rfl, O_2.out.cell 1 rfl⟩)
              obtain ⟨e0, e1⟩ := (show _ ∧ _ from ⟨O_2.out.loose 0, O_2.out.loose 1⟩)))
         have hgs := HBJ.out.size
         have O6 := st_other O_2.out (show gx ≠ gx + 1 by omega) (.slice A7 n7 c7) (.slice B7 q7 d7) (.slice X7 xn7 xc7) (.slice Y7 yn7 yc7) (.int .i64 t7)
         have yX := rp_other (st_put X_2.out rfl (.slice A7 n7 c7) (.slice B7 q7 d7) (.slice X7 xn7 xc7) (.slice Y7 yn7 yc7) (.int .i64 t7)) (show gx + 1 ≠ gx by omega) (.int .i64 E7) (.int .i64 I7)
         have yO := rp_put O6 rfl (.int .i64 E7) (.int .i64 I7)
         have yV := sk_rp (sk_put (V0 := ⟨A6, n6, c6, B6, q6, d6, X6, xn6, xc6, Y6, yn6, yc6, t6⟩) HVa.out X_2.out (.slice A7 n7 c7) (.slice B7 q7 d7) (.slice X7 xn7 xc7) (.slice Y7 yn7 yc7) (.int .i64 t7)) O6 (.int .i64 E7) (.int .i64 I7)
         have hbx : Below gx wg wh := HBJ.out.trans (HXe.out.mono (by have := X_1.out.lt; omega))
         have yB := rp_below (st_below hbx (Nat.le_refl _) (.slice A7 n7 c7) (.slice B7 q7 d7) (.slice X7 xn7 xc7) (.slice Y7 yn7 yc7) (.int .i64 t7)) (show gx ≤ gx + 1 by omega) (.int .i64 E7) (.int .i64 I7)
         clear x0 x1 x2 x3 x4 f0 f1 f2 f3 f4 z0 z1 e0 e1
         (try go_wp2)
         go_roundw
         · exact ⟨j + 1, ⟨A7, n7, c7, B7, q7, d7, X7, xn7, xc7, Y7, yn7, yc7, t7⟩, ⟨⟨T7, S7, K7⟩, E7, I7⟩, by omega, by first | rfl | (congr 1; omega), yB, yX, yO, yV, GD2.out, HWL2.out⟩
         · simp [intOf]; omega
       · have j1 := decide_eq_false (show ¬ (ln' : Int) ≤ (j : Int) by omega)
         have j1' := decide_eq_false hleg
         obtain ⟨x, hxa⟩ : ∃ x, lx[j]? = some x := ⟨_, List.getElem?_eq_getElem (by rw [FN.out]; omega)⟩
         have hx := legK_at hxa
         obtain ⟨fad, rfl, hfa⟩ := (FL.out.below HLJ.out).at_ hxa
         have fa0 : wr.cell? (fad.add j) = some (.bool x) := by have := hfa 0 _ rfl; simpa [flags] using this
         clear hfa hxa
         go_upto_region 15 with fail
         have HD2 := Lib.hid (edo_full ⟨A6, n6, c6, B6, q6, d6, X6, xn6, xc6, Y6, yn6, yc6, t6⟩ T6 S6 K6 ⟨1, Rq.zero, rk, x⟩ wr HX_1.out GD.out.fits (by have := GD.out.keys; dsimp only at this; omega) (HH.out.below HLJ.out) (fun h => by cases h))
         have GD2 := Lib.hid (GD.out.ev ⟨1, Rq.zero, rk, x⟩)
         rw [egO_stpW rfl] at HD2 GD2
         have hwl2 : whl lx rk (40 - (j + 1)) (j + 1) (stpO ⟨T6, S6, K6⟩ rk x) = ⟨⟨T9, [], K9⟩, E9, I9⟩ := by
          have h1 := HWL.out
          rw [show 40 - j = (40 - (j + 1)) + 1 by omega, whl_go _ _ _ _ rfl] at h1
          dsimp only at h1
          rwa [hx] at h1
         have HWL2 := Lib.hid hwl2
         clear hwl2
         unfold EgB Sv.val Sv.cells Ev.cells Rq.zero at HD2
         dsimp only at HD2 GD2 HWL2
         generalize stpO ⟨T6, S6, K6⟩ rk x = OE at HD2 GD2 HWL2
         obtain ⟨⟨T7, S7, K7⟩, E7, I7⟩ := OE
         dsimp only at HD2
         obtain ⟨x0, x1, x2, x3, x4⟩ := (show _ ∧ _ ∧ _ ∧ _ ∧ _ from ⟨X_1.out.cell 0 rfl, X_1.out.cell 1 rfl, X_1.out.cell 2 rfl, X_1.out.cell 3 rfl, X_1.out.cell 4 rfl⟩)
         have r0 := RJ.out.cell 0 rfl
         obtain ⟨z0, z1⟩ := (show _ ∧ _ from ⟨O_1.out.cell 0 rfl, O_1.out.cell 1 rfl⟩)
         obtain ⟨f0, f1, f2, f3, f4⟩ := (show _ ∧ _ ∧ _ ∧ _ ∧ _ from ⟨X_1.out.loose 0, X_1.out.loose 1, X_1.out.loose 2, X_1.out.loose 3, X_1.out.loose 4⟩)
         obtain ⟨e0, e1⟩ := (show _ ∧ _ from ⟨O_1.out.loose 0, O_1.out.loose 1⟩)
         go_wp2_with (first
           | (go_at_call 13; refine HD2.out.mono ?_; rintro _ wh ⟨V, rfl, hv, hb, hnw⟩
              obtain ⟨A7, n7, c7, B7, q7, d7, X7, xn7, xc7, Y7, yn7, yc7, t7⟩ := V
              dsimp only at hv ⊢
              have HVa := Lib.hid hv
              have HXe := Lib.hid hb
              have X_2 := Lib.hid (X_1.out.later hb)
              have O_2 := Lib.hid (O_1.out.later hb)
              clear hv hb hnw x0 x1 x2 x3 x4 f0 f1 f2 f3 f4 r0 z0 z1 e0 e1
              obtain ⟨x0, x1, x2, x3, x4⟩ := (show _ ∧ _ ∧ _ ∧ _ ∧ _ from ⟨X_2.out.cell 0 rfl, X_2.out.cell 1 rfl, X_2.out.cell 2 rfl, X_2.out.cell 3 rfl, X_2.out.cell 4 rfl⟩)
              obtain ⟨f0, f1, f2, f3, f4⟩ := (show _ ∧ _ ∧ _ ∧ _ ∧ _ from ⟨X_2.out.loose 0, X_2.out.loose 1, X_2.out.loose 2, X_2.out.loose 3, X_2.out.loose 4⟩)
              obtain ⟨z0, z1⟩ := (show _ ∧ _ from ⟨O_2.out.cell 0 rfl, O_2.out.cell 1 rfl⟩)
              obtain ⟨e0, e1⟩ := (show _ ∧ _ from ⟨O_2.out.loose 0, O_2.out.loose 1⟩)))
         have hgs := HBJ.out.size
         have O6 := st_other O_2.out (show gx ≠ gx + 1 by omega) (.slice A7 n7 c7) (.slice B7 q7 d7) (.slice X7 xn7 xc7) (.slice Y7 yn7 yc7) (.int .i64 t7)
         have yX := rp_other (st_put X_2.out rfl (.slice A7 n7 c7) (.slice B7 q7 d7) (.slice X7 xn7 xc7) (.slice Y7 yn7 yc7) (.int .i64 t7)) (show gx + 1 ≠ gx by omega) (.int .i64 E7) (.int .i64 I7)
         have yO := rp_put O6 rfl (.int .i64 E7) (.int .i64 I7)
         have yV := sk_rp (sk_put (V0 := ⟨A6, n6, c6, B6, q6, d6, X6, xn6, xc6, Y6, yn6, yc6, t6⟩) HVa.out X_2.out (.slice A7 n7 c7) (.slice B7 q7 d7) (.slice X7 xn7 xc7) (.slice Y7 yn7 yc7) (.int .i64 t7)) O6 (.int .i64 E7) (.int .i64 I7)
         have hbx : Below gx wg wh := HBJ.out.trans (HXe.out.mono (by have := X_1.out.lt; omega))
         have yB := rp_below (st_below hbx (Nat.le_refl _) (.slice A7 n7 c7) (.slice B7 q7 d7) (.slice X7 xn7 xc7) (.slice Y7 yn7 yc7) (.int .i64 t7)) (show gx ≤ gx + 1 by omega) (.int .i64 E7) (.int .i64 I7)
         clear x0 x1 x2 x3 x4 f0 f1 f2 f3 f4 z0 z1 e0 e1
         (try go_wp2)
         go_roundw
         · exact ⟨j + 1, ⟨A7, n7, c7, B7, q7, d7, X7, xn7, xc7, Y7, yn7, yc7, t7⟩, ⟨⟨T7, S7, K7⟩, E7, I7⟩, by omega, by first | rfl | (congr 1; omega), yB, yX, yO, yV, GD2.out, HWL2.out⟩
         · simp [intOf]; omega
     · have hO6 : (⟨⟨T6, S6, K6⟩, E6, I6⟩ : Eo) = ⟨⟨T9, [], K9⟩, E9, I9⟩ := by
        have h1 := HWL.out
        by_cases h10 : E6 = 10
        · have : j = 40 := by
           by_cases h40 : j < 40
           · exact absurd ⟨h10, h40⟩ hgo
           · omega
          subst this
          exact h1
        · rwa [whl_stop _ _ _ _ h10] at h1
       injection hO6 with hX6 hE6 hI6
       injection hX6 with hT6 hS6 hK6
       subst hT6 hS6 hK6 hE6 hI6
       have hcond : ∃ bq1 bq2 : Bool, (E6 == 10) = bq1 ∧ decide ((j : Int) < 40) = bq2 ∧ decide (j < 40) = bq2 ∧ (bq1 = false ∨ bq2 = false) := by
        refine ⟨_, _, rfl, rfl, decide_eq_decide.mpr (by omega), ?_⟩
        by_cases h10 : E6 = 10
        · right
          have : ¬ j < 40 := fun h => hgo ⟨h10, h⟩
          simp; omega
        · left; simp [h10]
       obtain ⟨bq1, bq2, hq1, hq2, hq3, hq⟩ := hcond
       clear hgo
       have HBJ2 := Lib.hid (by rw [← HGX.out]; exact HBJ.out : Below wg.heap.size wg wr)
       have hxlt := X_1.out.lt
       have HL_7 := Lib.hid (HL_6.out.trans (HBJ2.out.mono HL_6.out.size))
       have S_7 := Lib.hid (S_6.out.later HBJ2.out)
       have G_7 := Lib.hid (G_6.out.later HBJ2.out)
       have R_7 := Lib.hid (R_6.out.later HBJ2.out)
       have HU_7 := Lib.hid (HU_6.out.below HBJ2.out)
       have U_7 := Lib.hid (U_6.out.later HBJ2.out)
       have P_7 := Lib.hid (P_6.out.later HBJ2.out)
       clear HL_6 S_6 G_6 R_6 HU_6 U_6 P_6
       have X_7 := Lib.hid (X_1.out)
       have O_7 := Lib.hid (O_1.out)
       have HX_7 := Lib.hid (HX_1.out)
       clear X_1 O_1 HX_1 HBJ HBJ2 HLJ RJ
       have hxn := HX_7.out.xn
       dsimp only at hxn
       obtain rfl : xn6 = 0 := hxn.symm
       clear hxn
       have HSA := Lib.hid (sk_same ⟨A6, n6, c6, B6, q6, d6, X6, 0, xc6, Y6, yn6, yc6, t6⟩ ⟨A5, n5, c5, B5, q5, d5, X5, xn5, xc5, Y5, yn5, yc5, t5⟩ T6 [] [] K6 wr HX_7.out HU_7.out GD.out.fits.n GD.out.fits.q GD.out.fits.kl)
       unfold BoolRes Sv.val Sv.cells at HSA
       dsimp only at HSA
       have hbk := fun W' => run_backb W' la' ln' lc'' N9 (by have := HLE.out; have := FN.out; omega)
       obtain ⟨x0, x1, x2, x3, x4⟩ := (show _ ∧ _ ∧ _ ∧ _ ∧ _ from ⟨X_7.out.cell 0 rfl, X_7.out.cell 1 rfl, X_7.out.cell 2 rfl, X_7.out.cell 3 rfl, X_7.out.cell 4 rfl⟩)
       obtain ⟨y0, y1, y2, y3, y4⟩ := (show _ ∧ _ ∧ _ ∧ _ ∧ _ from ⟨U_7.out.cell 0 rfl, U_7.out.cell 1 rfl, U_7.out.cell 2 rfl, U_7.out.cell 3 rfl, U_7.out.cell 4 rfl⟩)
       obtain ⟨k0, k1⟩ := (show _ ∧ _ from ⟨P_7.out.cell 0 rfl, P_7.out.cell 1 rfl⟩)
       have hz : (bq1 = false) ∨ (bq1 = true ∧ bq2 = false) := by cases bq1 <;> simp_all
       clear hq
       rcases hz with rfl | ⟨rfl, rfl⟩
       · go_upto_region 18 with (first
           | (go_at_call 14; refine HSA.out.mono ?_; rintro _ wi ⟨rfl, hbi⟩
              have HXi := Lib.hid hbi
              have x2 := (X_7.out.later hbi).cell 2 rfl
              clear hbi x0 x1 x3 x4 y0 y1 y2 y3 y4 k0 k1 z0 z1))
         clear HSA x2
         have HL_8 := Lib.hid (HL_7.out.trans (HXi.out.mono HL_7.out.size))
         have S_8 := Lib.hid (S_7.out.later HXi.out)
         have G_8 := Lib.hid (G_7.out.later HXi.out)
         have R_8 := Lib.hid (R_7.out.later HXi.out)
         have HU_8 := Lib.hid (HU_7.out.below HXi.out)
         have U_8 := Lib.hid (U_7.out.later HXi.out)
         have P_8 := Lib.hid (P_7.out.later HXi.out)
         have X_8 := Lib.hid (X_7.out.later HXi.out)
         have O_8 := Lib.hid (O_7.out.later HXi.out)
         have HX_8 := Lib.hid (HX_7.out.below HXi.out)
         clear HL_7 S_7 G_7 R_7 HU_7 U_7 P_7 X_7 O_7 HX_7
         clear HXi
         have hxi : gx + 1 < wi.heap.size := O_8.out.lt
         have hui : gu + 1 < wi.heap.size := P_8.out.lt
         refine wp_region_held_drew (S := fun w' => On (fun b => b = gx ∨ b = gu) wi w') (by kernel_rfl) (On.refl _ wi).drew (fun hHeld => ?_)
         refine tk 0 93 (v := ?_) ?_ ?_
         rotate_left
         · intro w' hSw
           have hSw' := hSw
           (try dsimp only at hSw')
           obtain ⟨x0, x1, x2, x3, x4⟩ := (show _ ∧ _ ∧ _ ∧ _ ∧ _ from ⟨(X_8.out.on hSw' (.inl rfl)).cell 0 rfl, (X_8.out.on hSw' (.inl rfl)).cell 1 rfl, (X_8.out.on hSw' (.inl rfl)).cell 2 rfl, (X_8.out.on hSw' (.inl rfl)).cell 3 rfl, (X_8.out.on hSw' (.inl rfl)).cell 4 rfl⟩)
           go_simp
           (try with_reducible rfl)
         (try simp only [Act.put, sA, sB, sC])
         refine tk 1 94 (v := ?_) ?_ ?_
         rotate_left
         · intro w' hSw
           have hSw' := hSw
           (try dsimp only at hSw')
           obtain ⟨x0, x1, x2, x3, x4⟩ := (show _ ∧ _ ∧ _ ∧ _ ∧ _ from ⟨(U_8.out.on hSw' (.inr rfl)).cell 0 rfl, (U_8.out.on hSw' (.inr rfl)).cell 1 rfl, (U_8.out.on hSw' (.inr rfl)).cell 2 rfl, (U_8.out.on hSw' (.inr rfl)).cell 3 rfl, (U_8.out.on hSw' (.inr rfl)).cell 4 rfl⟩)
           go_simp
           (try with_reducible rfl)
         (try simp only [Act.put, sA, sB, sC])
         refine tk 2 95 (v := ?_) ?_ ?_
         rotate_left
         · intro w' hSw
           go_simp
           (try with_reducible rfl)
         (try simp only [Act.put, sA, sB, sC])
         refine tk 3 96 (v := ?_) ?_ ?_
         rotate_left
         · intro w' hSw
           go_simp
           (try with_reducible rfl)
         (try simp only [Act.put, sA, sB, sC])
         refine tk 4 97 (v := ?_) ?_ ?_
         rotate_left
         · intro w' hSw
           go_simp
           (try with_reducible rfl)
         (try simp only [Act.put, sA, sB, sC])
         have hbd : Below wi.heap.size wi wi.drew := (Below.refl _ _).drew
         clear P_8 O_8 R_8 X_8 U_8
         have HL_9 := Lib.hid (HL_8.out.trans (hbd.mono HL_8.out.size))
         have S_9 := Lib.hid (S_8.out.later hbd)
         have G_9 := Lib.hid (G_8.out.later hbd)
         have HU_9 := Lib.hid (HU_8.out.below hbd)
         have HX_9 := Lib.hid (HX_8.out.below hbd)
         clear HL_8 S_8 G_8 HU_8 HX_8
         clear hbd
         generalize wi.drew = wy at hHeld HL_9 S_9 G_9 HU_9 HX_9 ⊢
         obtain ⟨x0, x1, x2, x3, x4⟩ := (show _ ∧ _ ∧ _ ∧ _ ∧ _ from ⟨S_9.out.cell 0 rfl, S_9.out.cell 1 rfl, S_9.out.cell 2 rfl, S_9.out.cell 3 rfl, S_9.out.cell 4 rfl⟩)
         obtain ⟨f0, f1, f2, f3, f4⟩ := (show _ ∧ _ ∧ _ ∧ _ ∧ _ from ⟨S_9.out.loose 0, S_9.out.loose 1, S_9.out.loose 2, S_9.out.loose 3, S_9.out.loose 4⟩)
         refine wpAnyH_ready (rs := [5]) (by kernel_rfl) (by simp) ?_
         refine AllReadyH.cons (i := 5) rfl (fun K0 hK => ?_) AllReadyH.nil
         go_simp
         refine hK.out _ (((((wy.setCell ⟨g, 0, none⟩ (.slice A6 n6 c6)).setCell ⟨g, 1, none⟩ (.slice B6 q6 d6)).setCell ⟨g, 2, none⟩ (.slice X6 0 xc6)).setCell ⟨g, 3, none⟩ (.slice Y6 yn6 yc6)).setCell ⟨g, 4, none⟩ (.int .i64 t6)) (st_on hHeld (fun e => by rcases e with e | e <;> omega) (.slice A6 n6 c6) (.slice B6 q6 d6) (.slice X6 0 xc6) (.slice Y6 yn6 yc6) (.int .i64 t6)) (fun hHeld => ?_)
         clear hK K0
         (try simp only [Act.put, sA, sB, sC])
         clear x0 x1 x2 x3 x4 f0 f1 f2 f3 f4
         have xS := Lib.hid (st_put S_9.out rfl (.slice A6 n6 c6) (.slice B6 q6 d6) (.slice X6 0 xc6) (.slice Y6 yn6 yc6) (.int .i64 t6))
         have xG := Lib.hid (st_other G_9.out (show g ≠ g + 1 by omega) (.slice A6 n6 c6) (.slice B6 q6 d6) (.slice X6 0 xc6) (.slice Y6 yn6 yc6) (.int .i64 t6))
         have xV := Lib.hid (sk_put (V0 := ⟨A2, n2, c2, B2, q2, d2, X2, xn2, xc2, Y2, yn2, yc2, t2⟩) HX_9.out S_9.out (.slice A6 n6 c6) (.slice B6 q6 d6) (.slice X6 0 xc6) (.slice Y6 yn6 yc6) (.int .i64 t6))
         have xU := Lib.hid (sk_put (V0 := ⟨A2, n2, c2, B2, q2, d2, X2, xn2, xc2, Y2, yn2, yc2, t2⟩) HU_9.out S_9.out (.slice A6 n6 c6) (.slice B6 q6 d6) (.slice X6 0 xc6) (.slice Y6 yn6 yc6) (.int .i64 t6))
         have xL := Lib.hid (st_below HL_9.out (show w.heap.size ≤ g by omega) (.slice A6 n6 c6) (.slice B6 q6 d6) (.slice X6 0 xc6) (.slice Y6 yn6 yc6) (.int .i64 t6))
         clear HL_9 S_9 G_9 HU_9 HX_9
         generalize ((((wy.setCell ⟨g, 0, none⟩ (.slice A6 n6 c6)).setCell ⟨g, 1, none⟩ (.slice B6 q6 d6)).setCell ⟨g, 2, none⟩ (.slice X6 0 xc6)).setCell ⟨g, 3, none⟩ (.slice Y6 yn6 yc6)).setCell ⟨g, 4, none⟩ (.int .i64 t6) = wz at hHeld xS xG xV xU xL ⊢
         obtain ⟨x0, x1, x2, x3, x4⟩ := (show _ ∧ _ ∧ _ ∧ _ ∧ _ from ⟨xG.out.cell 0 rfl, xG.out.cell 1 rfl, xG.out.cell 2 rfl, xG.out.cell 3 rfl, xG.out.cell 4 rfl⟩)
         obtain ⟨f0, f1, f2, f3, f4⟩ := (show _ ∧ _ ∧ _ ∧ _ ∧ _ from ⟨xG.out.loose 0, xG.out.loose 1, xG.out.loose 2, xG.out.loose 3, xG.out.loose 4⟩)
         refine wpAnyH_ready (rs := [6]) (by kernel_rfl) (by simp) ?_
         refine AllReadyH.cons (i := 6) rfl (fun K0 hK => ?_) AllReadyH.nil
         go_simp
         refine hK.out _ (((((wz.setCell ⟨g + 1, 0, none⟩ (.slice A5 n5 c5)).setCell ⟨g + 1, 1, none⟩ (.slice B5 q5 d5)).setCell ⟨g + 1, 2, none⟩ (.slice X5 xn5 xc5)).setCell ⟨g + 1, 3, none⟩ (.slice Y5 yn5 yc5)).setCell ⟨g + 1, 4, none⟩ (.int .i64 t5)) (st_on hHeld (fun e => by rcases e with e | e <;> omega) (.slice A5 n5 c5) (.slice B5 q5 d5) (.slice X5 xn5 xc5) (.slice Y5 yn5 yc5) (.int .i64 t5)) (fun hHeld => ?_)
         clear hK K0
         (try simp only [Act.put, sA, sB, sC])
         clear x0 x1 x2 x3 x4 f0 f1 f2 f3 f4
         refine tk 7 3 (v := ?_) ?_ ?_
         rotate_left
         · intro w' hSw
           go_simp
           (try with_reducible rfl)
         (try simp only [Act.put, sA, sB, sC])
         refine wpAnyH_done (by kernel_rfl) ?_ _
         clear hHeld
         have yS := st_other xS.out (show g + 1 ≠ g by omega) (.slice A5 n5 c5) (.slice B5 q5 d5) (.slice X5 xn5 xc5) (.slice Y5 yn5 yc5) (.int .i64 t5)
         have yG := st_put xG.out rfl (.slice A5 n5 c5) (.slice B5 q5 d5) (.slice X5 xn5 xc5) (.slice Y5 yn5 yc5) (.int .i64 t5)
         have yV := sk_put (V0 := ⟨A3, n3, c3, B3, q3, d3, X3, xn3, xc3, Y3, yn3, yc3, t3⟩) xV.out xG.out (.slice A5 n5 c5) (.slice B5 q5 d5) (.slice X5 xn5 xc5) (.slice Y5 yn5 yc5) (.int .i64 t5)
         have yU := sk_put (V0 := ⟨A3, n3, c3, B3, q3, d3, X3, xn3, xc3, Y3, yn3, yc3, t3⟩) xU.out xG.out (.slice A5 n5 c5) (.slice B5 q5 d5) (.slice X5 xn5 xc5) (.slice Y5 yn5 yc5) (.int .i64 t5)
         have yL := st_below xL.out (show w.heap.size ≤ g + 1 by omega) (.slice A5 n5 c5) (.slice B5 q5 d5) (.slice X5 xn5 xc5) (.slice Y5 yn5 yc5) (.int .i64 t5)
         go_wp2
         go_roundw
         · exact ⟨k + 1, ⟨A6, n6, c6, B6, q6, d6, X6, 0, xc6, Y6, yn6, yc6, t6⟩, ⟨A5, n5, c5, B5, q5, d5, X5, xn5, xc5, Y5, yn5, yc5, t5⟩, T6, K6, _, _, _, lx.drop N9, by omega, by first | rfl | (congr 1; omega), rfl, yS, yG, yV, yU, GD.out, QU2.out, flags_drop FL.out FN.out hFc (by have := HLE.out; have := FN.out; omega), by rw [List.length_drop, FN.out], by omega, by omega, yL⟩
         · simp [intOf]; omega
       · go_upto_region 18 with (first
           | (go_at_call 14; refine HSA.out.mono ?_; rintro _ wi ⟨rfl, hbi⟩
              have HXi := Lib.hid hbi
              have x2 := (X_7.out.later hbi).cell 2 rfl
              clear hbi x0 x1 x3 x4 y0 y1 y2 y3 y4 k0 k1 z0 z1))
         clear HSA x2
         have HL_8 := Lib.hid (HL_7.out.trans (HXi.out.mono HL_7.out.size))
         have S_8 := Lib.hid (S_7.out.later HXi.out)
         have G_8 := Lib.hid (G_7.out.later HXi.out)
         have R_8 := Lib.hid (R_7.out.later HXi.out)
         have HU_8 := Lib.hid (HU_7.out.below HXi.out)
         have U_8 := Lib.hid (U_7.out.later HXi.out)
         have P_8 := Lib.hid (P_7.out.later HXi.out)
         have X_8 := Lib.hid (X_7.out.later HXi.out)
         have O_8 := Lib.hid (O_7.out.later HXi.out)
         have HX_8 := Lib.hid (HX_7.out.below HXi.out)
         clear HL_7 S_7 G_7 R_7 HU_7 U_7 P_7 X_7 O_7 HX_7
         clear HXi
         have hxi : gx + 1 < wi.heap.size := O_8.out.lt
         have hui : gu + 1 < wi.heap.size := P_8.out.lt
         refine wp_region_held_drew (S := fun w' => On (fun b => b = gx ∨ b = gu) wi w') (by kernel_rfl) (On.refl _ wi).drew (fun hHeld => ?_)
         refine tk 0 93 (v := ?_) ?_ ?_
         rotate_left
         · intro w' hSw
           have hSw' := hSw
           (try dsimp only at hSw')
           obtain ⟨x0, x1, x2, x3, x4⟩ := (show _ ∧ _ ∧ _ ∧ _ ∧ _ from ⟨(X_8.out.on hSw' (.inl rfl)).cell 0 rfl, (X_8.out.on hSw' (.inl rfl)).cell 1 rfl, (X_8.out.on hSw' (.inl rfl)).cell 2 rfl, (X_8.out.on hSw' (.inl rfl)).cell 3 rfl, (X_8.out.on hSw' (.inl rfl)).cell 4 rfl⟩)
           go_simp
           (try with_reducible rfl)
         (try simp only [Act.put, sA, sB, sC])
         refine tk 1 94 (v := ?_) ?_ ?_
         rotate_left
         · intro w' hSw
           have hSw' := hSw
           (try dsimp only at hSw')
           obtain ⟨x0, x1, x2, x3, x4⟩ := (show _ ∧ _ ∧ _ ∧ _ ∧ _ from ⟨(U_8.out.on hSw' (.inr rfl)).cell 0 rfl, (U_8.out.on hSw' (.inr rfl)).cell 1 rfl, (U_8.out.on hSw' (.inr rfl)).cell 2 rfl, (U_8.out.on hSw' (.inr rfl)).cell 3 rfl, (U_8.out.on hSw' (.inr rfl)).cell 4 rfl⟩)
           go_simp
           (try with_reducible rfl)
         (try simp only [Act.put, sA, sB, sC])
         refine tk 2 95 (v := ?_) ?_ ?_
         rotate_left
         · intro w' hSw
           go_simp
           (try with_reducible rfl)
         (try simp only [Act.put, sA, sB, sC])
         refine tk 3 96 (v := ?_) ?_ ?_
         rotate_left
         · intro w' hSw
           go_simp
           (try with_reducible rfl)
         (try simp only [Act.put, sA, sB, sC])
         refine tk 4 97 (v := ?_) ?_ ?_
         rotate_left
         · intro w' hSw
           go_simp
           (try with_reducible rfl)
         (try simp only [Act.put, sA, sB, sC])
         have hbd : Below wi.heap.size wi wi.drew := (Below.refl _ _).drew
         clear P_8 O_8 R_8 X_8 U_8
         have HL_9 := Lib.hid (HL_8.out.trans (hbd.mono HL_8.out.size))
         have S_9 := Lib.hid (S_8.out.later hbd)
         have G_9 := Lib.hid (G_8.out.later hbd)
         have HU_9 := Lib.hid (HU_8.out.below hbd)
         have HX_9 := Lib.hid (HX_8.out.below hbd)
         clear HL_8 S_8 G_8 HU_8 HX_8
         clear hbd
         generalize wi.drew = wy at hHeld HL_9 S_9 G_9 HU_9 HX_9 ⊢
         obtain ⟨x0, x1, x2, x3, x4⟩ := (show _ ∧ _ ∧ _ ∧ _ ∧ _ from ⟨S_9.out.cell 0 rfl, S_9.out.cell 1 rfl, S_9.out.cell 2 rfl, S_9.out.cell 3 rfl, S_9.out.cell 4 rfl⟩)
         obtain ⟨f0, f1, f2, f3, f4⟩ := (show _ ∧ _ ∧ _ ∧ _ ∧ _ from ⟨S_9.out.loose 0, S_9.out.loose 1, S_9.out.loose 2, S_9.out.loose 3, S_9.out.loose 4⟩)
         refine wpAnyH_ready (rs := [5]) (by kernel_rfl) (by simp) ?_
         refine AllReadyH.cons (i := 5) rfl (fun K0 hK => ?_) AllReadyH.nil
         go_simp
         refine hK.out _ (((((wy.setCell ⟨g, 0, none⟩ (.slice A6 n6 c6)).setCell ⟨g, 1, none⟩ (.slice B6 q6 d6)).setCell ⟨g, 2, none⟩ (.slice X6 0 xc6)).setCell ⟨g, 3, none⟩ (.slice Y6 yn6 yc6)).setCell ⟨g, 4, none⟩ (.int .i64 t6)) (st_on hHeld (fun e => by rcases e with e | e <;> omega) (.slice A6 n6 c6) (.slice B6 q6 d6) (.slice X6 0 xc6) (.slice Y6 yn6 yc6) (.int .i64 t6)) (fun hHeld => ?_)
         clear hK K0
         (try simp only [Act.put, sA, sB, sC])
         clear x0 x1 x2 x3 x4 f0 f1 f2 f3 f4
         have xS := Lib.hid (st_put S_9.out rfl (.slice A6 n6 c6) (.slice B6 q6 d6) (.slice X6 0 xc6) (.slice Y6 yn6 yc6) (.int .i64 t6))
         have xG := Lib.hid (st_other G_9.out (show g ≠ g + 1 by omega) (.slice A6 n6 c6) (.slice B6 q6 d6) (.slice X6 0 xc6) (.slice Y6 yn6 yc6) (.int .i64 t6))
         have xV := Lib.hid (sk_put (V0 := ⟨A2, n2, c2, B2, q2, d2, X2, xn2, xc2, Y2, yn2, yc2, t2⟩) HX_9.out S_9.out (.slice A6 n6 c6) (.slice B6 q6 d6) (.slice X6 0 xc6) (.slice Y6 yn6 yc6) (.int .i64 t6))
         have xU := Lib.hid (sk_put (V0 := ⟨A2, n2, c2, B2, q2, d2, X2, xn2, xc2, Y2, yn2, yc2, t2⟩) HU_9.out S_9.out (.slice A6 n6 c6) (.slice B6 q6 d6) (.slice X6 0 xc6) (.slice Y6 yn6 yc6) (.int .i64 t6))
         have xL := Lib.hid (st_below HL_9.out (show w.heap.size ≤ g by omega) (.slice A6 n6 c6) (.slice B6 q6 d6) (.slice X6 0 xc6) (.slice Y6 yn6 yc6) (.int .i64 t6))
         clear HL_9 S_9 G_9 HU_9 HX_9
         generalize ((((wy.setCell ⟨g, 0, none⟩ (.slice A6 n6 c6)).setCell ⟨g, 1, none⟩ (.slice B6 q6 d6)).setCell ⟨g, 2, none⟩ (.slice X6 0 xc6)).setCell ⟨g, 3, none⟩ (.slice Y6 yn6 yc6)).setCell ⟨g, 4, none⟩ (.int .i64 t6) = wz at hHeld xS xG xV xU xL ⊢
         obtain ⟨x0, x1, x2, x3, x4⟩ := (show _ ∧ _ ∧ _ ∧ _ ∧ _ from ⟨xG.out.cell 0 rfl, xG.out.cell 1 rfl, xG.out.cell 2 rfl, xG.out.cell 3 rfl, xG.out.cell 4 rfl⟩)
         obtain ⟨f0, f1, f2, f3, f4⟩ := (show _ ∧ _ ∧ _ ∧ _ ∧ _ from ⟨xG.out.loose 0, xG.out.loose 1, xG.out.loose 2, xG.out.loose 3, xG.out.loose 4⟩)
         refine wpAnyH_ready (rs := [6]) (by kernel_rfl) (by simp) ?_
         refine AllReadyH.cons (i := 6) rfl (fun K0 hK => ?_) AllReadyH.nil
         go_simp
         refine hK.out _ (((((wz.setCell ⟨g + 1, 0, none⟩ (.slice A5 n5 c5)).setCell ⟨g + 1, 1, none⟩ (.slice B5 q5 d5)).setCell ⟨g + 1, 2, none⟩ (.slice X5 xn5 xc5)).setCell ⟨g + 1, 3, none⟩ (.slice Y5 yn5 yc5)).setCell ⟨g + 1, 4, none⟩ (.int .i64 t5)) (st_on hHeld (fun e => by rcases e with e | e <;> omega) (.slice A5 n5 c5) (.slice B5 q5 d5) (.slice X5 xn5 xc5) (.slice Y5 yn5 yc5) (.int .i64 t5)) (fun hHeld => ?_)
         clear hK K0
         (try simp only [Act.put, sA, sB, sC])
         clear x0 x1 x2 x3 x4 f0 f1 f2 f3 f4
         refine tk 7 3 (v := ?_) ?_ ?_
         rotate_left
         · intro w' hSw
           go_simp
           (try with_reducible rfl)
         (try simp only [Act.put, sA, sB, sC])
         refine wpAnyH_done (by kernel_rfl) ?_ _
         clear hHeld
         have yS := st_other xS.out (show g + 1 ≠ g by omega) (.slice A5 n5 c5) (.slice B5 q5 d5) (.slice X5 xn5 xc5) (.slice Y5 yn5 yc5) (.int .i64 t5)
         have yG := st_put xG.out rfl (.slice A5 n5 c5) (.slice B5 q5 d5) (.slice X5 xn5 xc5) (.slice Y5 yn5 yc5) (.int .i64 t5)
         have yV := sk_put (V0 := ⟨A3, n3, c3, B3, q3, d3, X3, xn3, xc3, Y3, yn3, yc3, t3⟩) xV.out xG.out (.slice A5 n5 c5) (.slice B5 q5 d5) (.slice X5 xn5 xc5) (.slice Y5 yn5 yc5) (.int .i64 t5)
         have yU := sk_put (V0 := ⟨A3, n3, c3, B3, q3, d3, X3, xn3, xc3, Y3, yn3, yc3, t3⟩) xU.out xG.out (.slice A5 n5 c5) (.slice B5 q5 d5) (.slice X5 xn5 xc5) (.slice Y5 yn5 yc5) (.int .i64 t5)
         have yL := st_below xL.out (show w.heap.size ≤ g + 1 by omega) (.slice A5 n5 c5) (.slice B5 q5 d5) (.slice X5 xn5 xc5) (.slice Y5 yn5 yc5) (.int .i64 t5)
         go_wp2
         go_roundw
         · exact ⟨k + 1, ⟨A6, n6, c6, B6, q6, d6, X6, 0, xc6, Y6, yn6, yc6, t6⟩, ⟨A5, n5, c5, B5, q5, d5, X5, xn5, xc5, Y5, yn5, yc5, t5⟩, T6, K6, _, _, _, lx.drop N9, by omega, by first | rfl | (congr 1; omega), rfl, yS, yG, yV, yU, GD.out, QU2.out, flags_drop FL.out FN.out hFc (by have := HLE.out; have := FN.out; omega), by rw [List.length_drop, FN.out], by omega, by omega, yL⟩
         · simp [intOf]; omega
  · obtain rfl : k = lz3 := by omega
    go_wp2
    go_ret
    exact ⟨rfl, HL_0.out⟩
theorem engineWhole_walk (w : World) (v0 : Value) (w0 : BookAt w v0) (a1 : Option Addr) (len1 cap1 : Nat) (w1 : IsRecs paids Pd.fits w a1 len1 cap1) (r1 : cap1 ≤ 1048576) (a2 : Option Addr) (len2 cap2 : Nat) (w2 : IsRecs asks Ak.fits w a2 len2 cap2) (r2 : cap2 ≤ 1048576) (a3 : Option Addr) (len3 cap3 : Nat) (w3 : IsRecs flags (fun _ => True) w a3 len3 cap3) (r3 : cap3 ≤ 1048576) (hh : HasErr w) :
  Calls Tryz.prog 3 #[v0, .slice a1 len1 cap1, .slice a2 len2 cap2, .slice a3 len3 cap3] w fun e w' => e = .returned (.bool true) ∧ Below w.heap.size w w' := by
 obtain ⟨zs, pl, pr, pf, plc, _, _⟩ := recs_list w1
 obtain ⟨zk, kl, kr, kf, klc, _, _⟩ := recs_list w2
 obtain ⟨ls, fl, fr, _, flc, _, _⟩ := recs_list w3
 exact engineWhole_core w v0 w0 a1 len1 cap1 zs pl pr pf (by omega) a2 len2 cap2 zk kl kr kf (by omega) a3 len3 cap3 ls fr fl flc (by omega) hh
end Go.Proofs.YteifgmdaggiaaaaGreatDoor
