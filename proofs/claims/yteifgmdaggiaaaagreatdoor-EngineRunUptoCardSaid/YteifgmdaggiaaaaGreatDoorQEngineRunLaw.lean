/-
  The law EngineRun: events, one behind the other, come to what they do at once.
-/
import Derived.Test.YteifgmdaggiaaaaGreatDoorQEngAwake
import Derived.Test.YteifgmdaggiaaaaGreatDoorQEngSame
import Derived.Test.YteifgmdaggiaaaaGreatDoorQGrP
import Derived.Test.YteifgmdaggiaaaaGreatDoorQGrN
import Derived.Deep.CutRange
set_option linter.unusedSimpArgs false
namespace Go.Proofs.YteifgmdaggiaaaaGreatDoor
open Go Go.RowKit
set_option linter.unusedVariables false
theorem info_evs : (Tryz.prog.info? 53).map (fun i => (i.zero, i.size, i.bytes)) = some (some (.agg #[.int .i64 0, .int .i64 0, .int .i64 0, .int .i64 0, .int .i64 0, .int .i64 0, .int .i64 0, .int .i64 0, .int .i64 0, .bool false]), 10, 80) := by kernel_rfl
set_option maxRecDepth 100000 in
set_option maxHeartbeats 4000000 in
theorem engineRun_core (w : World) (b : Value) (hb : BookAt w b)
  (ak : Option Addr) (l1 cz1 : Nat) (zk : List EA) (hkl : zk.length = l1) (hk : RdS eacts w ak zk) (hkf : ∀ (j : Nat) z, zk[j]? = some z → z.fits) (hl1 : l1 ≤ 1900000) (hh : HasErr w) :
  Calls Tryz.prog 6 #[b, .slice ak l1 cz1] w fun e w' => e = .returned (.bool true) ∧ Below w.heap.size w w' := by
 have HST := Lib.hid (fun W (hW : Below w.heap.size w W) => state_any hb none 0 0 [] rfl 0 (by decide) (by decide) W hW RdS.nil (fun j z h => by simp at h))
 have HAW := Lib.hid (fun W (hW : Below w.heap.size w W) => eawake_ok W (hh.below hW))
 have HH := Lib.hid hh
 have HZK := Lib.hid hk
 have HKL := Lib.hid hkl
 have HKF := Lib.hid hkf
 obtain ⟨CA, HA, LA, cl, cc, hl', hc, ll, lc', cs, hs, ls', rfl, h1, h2, h3, h4, h5, h6, h7, h8, h9⟩ := hb.form
 unfold Sv.val Sv.cells at HST
 clear h1 h2 h3 h4 h5 h6 h7 h8 h9 hb hk hkl hkf hh
 go_enter Tryz.func6, Tryz.ntmps6
 go_wp2_with fail
 refine (HAW.out _ ((Below.refl w.heap.size w).alloc (Nat.le_refl _) (.cells #[.slice CA cl cc, .slice HA hl' hc, .slice LA ll lc'] 25))).mono ?_
 rintro _ wa ⟨rfl, hba⟩
 have HBk := Lib.hid ((Blk.new w 25 #[.slice CA cl cc, .slice HA hl' hc, .slice LA ll lc']).later hba)
 have HWA := Lib.hid (((Below.refl w.heap.size w).alloc (Nat.le_refl _) (.cells #[.slice CA cl cc, .slice HA hl' hc, .slice LA ll lc'] 25)).trans (hba.mono (by simp)))
 clear hba HAW
 obtain ⟨b0, b1, b2⟩ := (show _ ∧ _ ∧ _ from ⟨HBk.out.cell 0 rfl, HBk.out.cell 1 rfl, HBk.out.cell 2 rfl⟩)
 go_wp2_with fail
 refine (HST.out _ HWA.out).mono ?_
 rintro _ w1 ⟨V1, s0, rfl, hv1, hmd, hb1⟩
 have HL_0 := Lib.hid (HWA.out.trans (hb1.mono HWA.out.size))
 have GD0 := Lib.hid (good_new hmd.ok (by have h1 := hmd.pays; omega))
 have HV_0 := Lib.hid hv1.sk
 obtain ⟨A1, n1, c1, B1, q1, d1, X1, xn1, xc1, Y1, yn1, yc1, t1⟩ := V1
 dsimp only at HV_0 ⊢
 clear hv1 hb1 hmd HST HWA HBk b0 b1 b2
 have hg : w.heap.size ≤ w1.heap.size := HL_0.out.size
 go_upto_region 5 with fail
 have al := (Below.refl w1.heap.size w1).alloc (Nat.le_refl _) (.cells #[.slice A1 n1 c1, .slice B1 q1 d1, .slice X1 xn1 xc1, .slice Y1 yn1 yc1, .int .i64 t1] 35)
 replace al := al.alloc (by simp; try omega) (.cells #[.slice A1 n1 c1, .slice B1 q1 d1, .slice X1 xn1 xc1, .slice Y1 yn1 yc1, .int .i64 t1] 35)
 have nb0 := (Blk.new w1 35 #[.slice A1 n1 c1, .slice B1 q1 d1, .slice X1 xn1 xc1, .slice Y1 yn1 yc1, .int .i64 t1]).more (.cells #[.slice A1 n1 c1, .slice B1 q1 d1, .slice X1 xn1 xc1, .slice Y1 yn1 yc1, .int .i64 t1] 35)
 have nb1 := Blk.new (w1.alloc (.cells #[.slice A1 n1 c1, .slice B1 q1 d1, .slice X1 xn1 xc1, .slice Y1 yn1 yc1, .int .i64 t1] 35)) 35 #[.slice A1 n1 c1, .slice B1 q1 d1, .slice X1 xn1 xc1, .slice Y1 yn1 yc1, .int .i64 t1]
 rw [alloc_size] at nb1
 have HL_1 := Lib.hid (HL_0.out.trans (al.mono HL_0.out.size))
 have HV_1 := Lib.hid (HV_0.out.below al)
 clear al HL_0 HV_0
 have S_1 := Lib.hid (nb0)
 have G_1 := Lib.hid (nb1)
 clear nb0 nb1
 generalize (w1.alloc (.cells #[.slice A1 n1 c1, .slice B1 q1 d1, .slice X1 xn1 xc1, .slice Y1 yn1 yc1, .int .i64 t1] 35)).alloc (.cells #[.slice A1 n1 c1, .slice B1 q1 d1, .slice X1 xn1 xc1, .slice Y1 yn1 yc1, .int .i64 t1] 35) = w2 at HL_1 HV_1 S_1 G_1 ⊢
 generalize w1.heap.size = gs at S_1 G_1 hg ⊢
 have hgw2 : gs + 1 < w2.heap.size := G_1.out.lt
 have M0 := Lib.hid (show LpM w w2 w2.heap.size gs (gs + 1) ⟨A1, n1, c1, B1, q1, d1, X1, xn1, xc1, Y1, yn1, yc1, t1⟩ s0 ⟨A1, n1, c1, B1, q1, d1, X1, xn1, xc1, Y1, yn1, yc1, t1⟩ ⟨A1, n1, c1, B1, q1, d1, X1, xn1, xc1, Y1, yn1, yc1, t1⟩ ⟨s0, [], []⟩ (.slice none 0 0) (.slice none 0 0) [] [] from ⟨HL_1.out, S_1.out, HV_1.out, G_1.out, HV_1.out, OwnS.nil, OwnS.nil, Sv.in_.mono HV_1.out.in_lt (fun b _ => ⟨(fun e => by cases e), (fun e => by cases e)⟩), HV_1.out.in_lt, HL_1.out.size⟩)
 clear HL_1 HV_1 S_1 G_1
 have HG := Lib.hid hg
 clear hg
 obtain ⟨base, hbase⟩ : ∃ b, b = w2.heap.size := ⟨_, rfl⟩
 rw [← hbase] at M0 hgw2
 have HB0 := Lib.hid (Nat.le_of_eq hbase)
 clear hbase
 obtain ⟨S0, hS0⟩ : ∃ S : Rn, S = ⟨⟨⟨s0, [], []⟩, []⟩, []⟩ := ⟨_, rfl⟩
 have HS0 := Lib.hid hS0
 clear hS0
 go_wp2
 go_loopw [7, 8, 24] (fun ev ov i wr => ∃ (k : Nat) (V : Sv), k ≤ l1 ∧ i = .int .i64 (k : Int) ∧ base ≤ wr.heap.size ∧ LpM w wr base gs (gs + 1) ⟨A1, n1, c1, B1, q1, d1, X1, xn1, xc1, Y1, yn1, yc1, t1⟩ s0 V V (runA S0 (zk.take k)).R.X ev ov (runA S0 (zk.take k)).es (runA S0 (zk.take k)).R.os) (fun _ _ i _ => l1 - (intOf i).toNat)
 case atStart => exact ⟨0, ⟨A1, n1, c1, B1, q1, d1, X1, xn1, xc1, Y1, yn1, yc1, t1⟩, Nat.zero_le _, rfl, HB0.out, by rw [HS0.out]; exact M0.out⟩
 case round =>
  obtain ⟨k, V, hk, rfl, hbs, hM⟩ := hrel
  have M1 := Lib.hid hM
  have GX := Lib.hid (runA_good (zs := zk.take k) (S := S0) (by rw [HS0.out]; exact GD0.out))
  obtain ⟨A3, n3, c3, B3, q3, d3, X3, xn3, xc3, Y3, yn3, yc3, t3⟩ := V
  clear hM M0
  by_cases hlt : k < l1
  · obtain ⟨z, hz⟩ : ∃ z, zk[k]? = some z := ⟨_, List.getElem?_eq_getElem (by rw [HKL.out]; exact hlt)⟩
    obtain ⟨ad, rfl, hat⟩ := (HZK.out.below M1.out.L).at_ hz
    obtain ⟨p0, p1, p2, p3, p4, p5, p6, p7, p8, p9⟩ := ea_cells hat
    have hnx := runA_at (S := S0) hz
    have hfz := HKF.out k z hz
    have hlen := runA_len (zs := zk.take k) (S := S0)
    have hOE := own_size M1.out.OE
    have hOR := own_size M1.out.OR
    rw [HS0.out, List.length_take, HKL.out, ← HS0.out] at hlen
    generalize runA S0 (zk.take k) = Y at M1 GX hnx hlen
    obtain ⟨⟨⟨T, sl, kl⟩, os⟩, es⟩ := Y
    unfold goA goV at hnx
    dsimp only at M1 GX hnx hlen
    have hln : es.length = k ∧ os.length = k := by rw [HS0.out] at hlen; simp at hlen; omega
    have HLN := Lib.hid hln
    have HEV := Lib.hid (fun W (hv : SkAt W ⟨A3, n3, c3, B3, q3, d3, X3, xn3, xc3, Y3, yn3, yc3, t3⟩ T sl kl) => event_any z hfz ⟨A3, n3, c3, B3, q3, d3, X3, xn3, xc3, Y3, yn3, yc3, t3⟩ T sl kl W hv (by have := GX.out.few; dsimp only at this; omega))
    unfold EvRes at HEV
    obtain ⟨e, he⟩ : ∃ e, z.ev sl = e := ⟨_, rfl⟩
    rw [he] at hnx HEV
    have HD1 := Lib.hid (fun W (h1 : SkAt W ⟨A3, n3, c3, B3, q3, d3, X3, xn3, xc3, Y3, yn3, yc3, t3⟩ T sl kl) (h2 : Below w.heap.size w W) => edo_full ⟨A3, n3, c3, B3, q3, d3, X3, xn3, xc3, Y3, yn3, yc3, t3⟩ T sl kl e W h1 GX.out.fits (by have := GX.out.keys; dsimp only at this; omega) (HH.out.below h2) (fun _ => GX.out.tick_))
    unfold EgB at HD1
    generalize egO ⟨T, sl, kl⟩ e = OE at HD1 hnx
    obtain ⟨⟨T9, S9, K9⟩, E9, I9⟩ := OE
    dsimp only at HD1 hnx
    have HNX := Lib.hid hnx
    obtain ⟨what, ⟨key, op, qa, qb, amt, legs, til⟩, n, ok⟩ := z
    obtain ⟨ew, ⟨rk, ro, ra, rb, rm, rl, ru⟩, ekey, eok⟩ := e
    unfold EA.cells Sv.val Sv.cells Ev.cells at HEV
    unfold Sv.val Sv.cells Ev.cells at HD1
    dsimp only at p0 p1 p2 p3 p4 p5 p6 p7 p8 p9 HEV HD1
    clear hat hz hnx hlen hln hfz he
    go_upto_region 10 with fail
    have al := (Below.refl wr.heap.size wr).alloc (Nat.le_refl _) (.cells #[.int .u8 (what : Int), .int .u8 (key : Int), .int .u8 (op : Int), .int .u8 (qa : Int), .int .u8 (qb : Int), .int .u16 (amt : Int), .int .u8 (legs : Int), .int .u8 (til : Int), .int .u8 (n : Int), .bool ok] 58)
    have Q0 := Lib.hid (Blk.new wr 58 #[.int .u8 (what : Int), .int .u8 (key : Int), .int .u8 (op : Int), .int .u8 (qa : Int), .int .u8 (qb : Int), .int .u16 (amt : Int), .int .u8 (legs : Int), .int .u8 (til : Int), .int .u8 (n : Int), .bool ok])
    have M2 := Lib.hid (M1.out.below al)
    clear M1
    have hB : (wr.alloc (.cells #[.int .u8 (what : Int), .int .u8 (key : Int), .int .u8 (op : Int), .int .u8 (qa : Int), .int .u8 (qb : Int), .int .u16 (amt : Int), .int .u8 (legs : Int), .int .u8 (til : Int), .int .u8 (n : Int), .bool ok] 58)).heap.size = wr.heap.size + 1 := by simp
    clear al p0 p1 p2 p3 p4 p5 p6 p7 p8 p9
    generalize wr.alloc (.cells #[.int .u8 (what : Int), .int .u8 (key : Int), .int .u8 (op : Int), .int .u8 (qa : Int), .int .u8 (qb : Int), .int .u16 (amt : Int), .int .u8 (legs : Int), .int .u8 (til : Int), .int .u8 (n : Int), .bool ok] 58) = wb at Q0 M2 hB ⊢
    obtain ⟨r0, r1, r2, r3, r4, r5, r6, r7, r8, r9⟩ := (show _ ∧ _ ∧ _ ∧ _ ∧ _ ∧ _ ∧ _ ∧ _ ∧ _ ∧ _ from ⟨Q0.out.cell 0 rfl, Q0.out.cell 1 rfl, Q0.out.cell 2 rfl, Q0.out.cell 3 rfl, Q0.out.cell 4 rfl, Q0.out.cell 5 rfl, Q0.out.cell 6 rfl, Q0.out.cell 7 rfl, Q0.out.cell 8 rfl, Q0.out.cell 9 rfl⟩)
    obtain ⟨x0, x1, x2, x3, x4⟩ := (show _ ∧ _ ∧ _ ∧ _ ∧ _ from ⟨M2.out.G.cell 0 rfl, M2.out.G.cell 1 rfl, M2.out.G.cell 2 rfl, M2.out.G.cell 3 rfl, M2.out.G.cell 4 rfl⟩)
    go_upto_region 11 with (first
      | (go_at_call 15; refine (HEV.out _ M2.out.HV).mono ?_; rintro _ wc ⟨rfl, hb⟩
         have HXc := Lib.hid hb
         clear hb r0 r1 r2 r3 r4 r5 r6 r7 r8 r9 x0 x1 x2 x3 x4))
    have M3 := Lib.hid (M2.out.below HXc.out)
    clear M2
    have hs1 := HXc.out.size
    clear HXc HEV Q0
    have al := (Below.refl wc.heap.size wc).alloc (Nat.le_refl _) (.cells #[.int .i64 ew, .int .i64 rk, .int .i64 ro, .int .i64 ra, .int .i64 rb, .int .i64 rm, .int .i64 rl, .int .i64 ru, .int .i64 ekey, .bool eok] 53)
    have EB := Lib.hid (Blk.new wc 53 #[.int .i64 ew, .int .i64 rk, .int .i64 ro, .int .i64 ra, .int .i64 rb, .int .i64 rm, .int .i64 rl, .int .i64 ru, .int .i64 ekey, .bool eok])
    have M4 := Lib.hid (M3.out.below al)
    clear M3
    have hB2 : (wc.alloc (.cells #[.int .i64 ew, .int .i64 rk, .int .i64 ro, .int .i64 ra, .int .i64 rb, .int .i64 rm, .int .i64 rl, .int .i64 ru, .int .i64 ekey, .bool eok] 53)).heap.size = wc.heap.size + 1 := by simp
    clear al
    generalize wc.alloc (.cells #[.int .i64 ew, .int .i64 rk, .int .i64 ro, .int .i64 ra, .int .i64 rb, .int .i64 rm, .int .i64 rl, .int .i64 ru, .int .i64 ekey, .bool eok] 53) = wd at EB M4 hB2 ⊢
    have hge : wr.heap.size ≤ wc.heap.size := by omega
    generalize wc.heap.size = ge at EB hB2 hge hs1 ⊢
    have D1 := Lib.hid (HD1.out wd M4.out.HV M4.out.L)
    obtain ⟨r0, r1, r2, r3, r4, r5, r6, r7, r8, r9⟩ := (show _ ∧ _ ∧ _ ∧ _ ∧ _ ∧ _ ∧ _ ∧ _ ∧ _ ∧ _ from ⟨EB.out.cell 0 rfl, EB.out.cell 1 rfl, EB.out.cell 2 rfl, EB.out.cell 3 rfl, EB.out.cell 4 rfl, EB.out.cell 5 rfl, EB.out.cell 6 rfl, EB.out.cell 7 rfl, EB.out.cell 8 rfl, EB.out.cell 9 rfl⟩)
    obtain ⟨x0, x1, x2, x3, x4⟩ := (show _ ∧ _ ∧ _ ∧ _ ∧ _ from ⟨M4.out.G.cell 0 rfl, M4.out.G.cell 1 rfl, M4.out.G.cell 2 rfl, M4.out.G.cell 3 rfl, M4.out.G.cell 4 rfl⟩)
    go_upto_region 12 with (first
      | (go_at_call 13; refine D1.out.mono ?_; rintro _ we ⟨V, rfl, hv, hb, hnw⟩
         obtain ⟨A4, n4, c4, B4, q4, d4, X4, xn4, xc4, Y4, yn4, yc4, t4⟩ := V
         dsimp only at hv ⊢
         have M5 := Lib.hid (M4.out.did (X' := ⟨T9, S9, K9⟩) hb hv hnw)
         have HXe := Lib.hid hb
         clear hv hb hnw r0 r1 r2 r3 r4 r5 r6 r7 r8 r9 x0 x1 x2 x3 x4))
    have hs2 := HXe.out.size
    have EB2 := Lib.hid (EB.out.later HXe.out)
    clear HXe D1 HD1 M4 EB
    have al := ((Below.refl we.heap.size we).alloc (Nat.le_refl _) (.cells #[.slice A4 n4 c4, .slice B4 q4 d4, .slice X4 xn4 xc4, .slice Y4 yn4 yc4, .int .i64 t4] 35)).alloc (by simp) (.cells #[.int .i64 E9, .int .i64 I9] 46)
    have U := Lib.hid ((Blk.new we 35 #[.slice A4 n4 c4, .slice B4 q4 d4, .slice X4 xn4 xc4, .slice Y4 yn4 yc4, .int .i64 t4]).more (.cells #[.int .i64 E9, .int .i64 I9] 46))
    have nb1 := Blk.new (we.alloc (.cells #[.slice A4 n4 c4, .slice B4 q4 d4, .slice X4 xn4 xc4, .slice Y4 yn4 yc4, .int .i64 t4] 35)) 46 #[.int .i64 E9, .int .i64 I9]
    rw [alloc_size] at nb1
    have P := Lib.hid nb1
    have EB3 := Lib.hid (EB2.out.later al)
    have M6 := Lib.hid (M5.out.below al)
    clear M5
    have hB3 : ((we.alloc (.cells #[.slice A4 n4 c4, .slice B4 q4 d4, .slice X4 xn4 xc4, .slice Y4 yn4 yc4, .int .i64 t4] 35)).alloc (.cells #[.int .i64 E9, .int .i64 I9] 46)).heap.size = we.heap.size + 1 + 1 := by simp
    clear al nb1 EB2
    generalize (we.alloc (.cells #[.slice A4 n4 c4, .slice B4 q4 d4, .slice X4 xn4 xc4, .slice Y4 yn4 yc4, .int .i64 t4] 35)).alloc (.cells #[.int .i64 E9, .int .i64 I9] 46) = wn at U P EB3 M6 hB3 ⊢
    generalize we.heap.size = gu at U P hB3 hs2 ⊢
    have hgeu : ge < gu := by omega
    have hwr : wr.heap.size ≤ ge := hge
    have hgg : gs + 1 < wr.heap.size := by omega
    refine wp_region_held_drew (S := fun w' => On (fun k => k = ge ∨ k = gu ∨ k = gu + 1) wn w') (by kernel_rfl) (On.refl _ wn).drew (fun hHeld => ?_)
    refine tk 0 37 (v := ?_) ?_ ?_
    rotate_left
    · intro w' hSw
      have hSw' := hSw
      (try dsimp only at hSw')
      obtain ⟨x0, x1, x2, x3, x4⟩ := (show _ ∧ _ ∧ _ ∧ _ ∧ _ from ⟨(U.out.on hSw' (.inr (.inl rfl))).cell 0 rfl, (U.out.on hSw' (.inr (.inl rfl))).cell 1 rfl, (U.out.on hSw' (.inr (.inl rfl))).cell 2 rfl, (U.out.on hSw' (.inr (.inl rfl))).cell 3 rfl, (U.out.on hSw' (.inr (.inl rfl))).cell 4 rfl⟩)
      go_simp
      (try with_reducible rfl)
    (try simp only [Act.put, sA, sB, sC])
    refine tk 1 38 (v := ?_) ?_ ?_
    rotate_left
    · intro w' hSw
      go_simp
      (try with_reducible rfl)
    (try simp only [Act.put, sA, sB, sC])
    refine tk 2 39 (v := ?_) ?_ ?_
    rotate_left
    · intro w' hSw
      have hSw' := hSw
      (try dsimp only at hSw')
      obtain ⟨r0, r1, r2, r3, r4, r5, r6, r7, r8, r9⟩ := (show _ ∧ _ ∧ _ ∧ _ ∧ _ ∧ _ ∧ _ ∧ _ ∧ _ ∧ _ from ⟨(EB3.out.on hSw' (.inl rfl)).cell 0 rfl, (EB3.out.on hSw' (.inl rfl)).cell 1 rfl, (EB3.out.on hSw' (.inl rfl)).cell 2 rfl, (EB3.out.on hSw' (.inl rfl)).cell 3 rfl, (EB3.out.on hSw' (.inl rfl)).cell 4 rfl, (EB3.out.on hSw' (.inl rfl)).cell 5 rfl, (EB3.out.on hSw' (.inl rfl)).cell 6 rfl, (EB3.out.on hSw' (.inl rfl)).cell 7 rfl, (EB3.out.on hSw' (.inl rfl)).cell 8 rfl, (EB3.out.on hSw' (.inl rfl)).cell 9 rfl⟩)
      go_simp
      (try with_reducible rfl)
    (try simp only [Act.put, sA, sB, sC])
    refine tk 5 42 (v := ?_) ?_ ?_
    rotate_left
    · intro w' hSw
      go_simp
      (try with_reducible rfl)
    (try simp only [Act.put, sA, sB, sC])
    refine tk 6 43 (v := ?_) ?_ ?_
    rotate_left
    · intro w' hSw
      have hSw' := hSw
      (try dsimp only at hSw')
      obtain ⟨z0, z1⟩ := (show _ ∧ _ from ⟨(P.out.on hSw' (.inr (.inr rfl))).cell 0 rfl, (P.out.on hSw' (.inr (.inr rfl))).cell 1 rfl⟩)
      go_simp
      (try with_reducible rfl)
    (try simp only [Act.put, sA, sB, sC])
    have M7 := Lib.hid (M6.out.below (W' := wn.drew) ((Below.refl _ _).drew))
    have hlo : gu + 1 < wn.drew.heap.size := by show gu + 1 < wn.heap.size; omega
    clear M6 U P EB3
    generalize wn.drew = wq at hHeld M7 hlo ⊢
    refine wpAnyH_ready (rs := [3, 7]) (by kernel_rfl) (by simp) ?_
    refine AllReadyH.cons (i := 3) rfl (fun K0 hK => ?_) (AllReadyH.cons (i := 7) rfl (fun K0 hK => ?_) AllReadyH.nil)
    · go_simp
      have al := (Below.refl wq.heap.size wq).alloc (Nat.le_refl _) (.cells #[.int .i64 ew, .int .i64 rk, .int .i64 ro, .int .i64 ra, .int .i64 rb, .int .i64 rm, .int .i64 rl, .int .i64 ru, .int .i64 ekey, .bool eok] 53)
      refine hK.out _ (wq.alloc (.cells #[.int .i64 ew, .int .i64 rk, .int .i64 ro, .int .i64 ra, .int .i64 rb, .int .i64 rm, .int .i64 rl, .int .i64 ru, .int .i64 ekey, .bool eok] 53)) (hHeld.trans (On.of al (fun k hk => by rcases hk with rfl | rfl | rfl <;> omega))) (fun hHeld => ?_)
      clear hK K0
      (try simp only [Act.put, sA, sB, sC])
      have AT3 : AtS evs (wq.alloc (.cells #[.int .i64 ew, .int .i64 rk, .int .i64 ro, .int .i64 ra, .int .i64 rb, .int .i64 rm, .int .i64 rl, .int .i64 ru, .int .i64 ekey, .bool eok] 53)) ⟨wq.heap.size, 0, none⟩ 0 ⟨ew, ⟨rk, ro, ra, rb, rm, rl, ru⟩, ekey, eok⟩ := AtS.new rfl
      have hb3 : gu + 1 < wq.heap.size := hlo
      have MM1 := Lib.hid (M7.out.below al)
      replace hlo : gu + 1 < (wq.alloc (.cells #[.int .i64 ew, .int .i64 rk, .int .i64 ro, .int .i64 ra, .int .i64 rb, .int .i64 rm, .int .i64 rl, .int .i64 ru, .int .i64 ekey, .bool eok] 53)).heap.size := by simp; omega
      clear al
      generalize wq.alloc (.cells #[.int .i64 ew, .int .i64 rk, .int .i64 ro, .int .i64 ra, .int .i64 rb, .int .i64 rm, .int .i64 rl, .int .i64 ru, .int .i64 ekey, .bool eok] 53) = wq1 at hHeld AT3  MM1 hlo ⊢
      generalize wq.heap.size = gb3 at AT3 hb3 ⊢
      refine wpAnyH_ready (rs := [4, 7]) (by kernel_rfl) (by simp) ?_
      refine AllReadyH.cons (i := 4) rfl (fun K0 hK => ?_) (AllReadyH.cons (i := 7) rfl (fun K0 hK => ?_) AllReadyH.nil)
      · refine step_append_lie evs 74 Tryz.underlying74 info_evs rfl rfl 41 rfl (.tmp 38) (.tmp 40) rfl base _ es rfl MM1.out.OE _ _ ⟨ew, ⟨rk, ro, ra, rb, rm, rl, ru⟩, ekey, eok⟩ rfl AT3 (by have := HLN.out; omega) (by have := HLN.out; omega) (by omega) ?_
        intro ga cga wq2 ho hg hat
        have MM2 := Lib.hid (MM1.out.appE ho hg hat (by omega))
        have hsz4 := hg.size
        have hH := hHeld.grown hg (fun k hk => by rcases hk with rfl | rfl | rfl <;> omega) (fun k e hk => by have := hOE k e; rcases hk with rfl | rfl | rfl <;> omega)
        replace hlo : gu + 1 < wq2.heap.size := by omega
        clear ho hg hat AT3
        refine hK.out _ _ hH (fun hHeld => ?_)
        clear hK K0 hH
        (try simp only [Act.put, sA, sB, sC])
        refine wpAnyH_ready (rs := [7]) (by kernel_rfl) (by simp) ?_
        refine AllReadyH.cons (i := 7) rfl (fun K0 hK => ?_) AllReadyH.nil
        go_simp
        have al := (Below.refl wq2.heap.size wq2).alloc (Nat.le_refl _) (.cells #[.int .i64 E9, .int .i64 I9] 46)
        refine hK.out _ (wq2.alloc (.cells #[.int .i64 E9, .int .i64 I9] 46)) (hHeld.trans (On.of al (fun k hk => by rcases hk with rfl | rfl | rfl <;> omega))) (fun hHeld => ?_)
        clear hK K0
        (try simp only [Act.put, sA, sB, sC])
        have AT7 : AtS rps (wq2.alloc (.cells #[.int .i64 E9, .int .i64 I9] 46)) ⟨wq2.heap.size, 0, none⟩ 0 (E9, I9) := AtS.new rfl
        have hb7 : gu + 1 < wq2.heap.size := hlo
        have MM3 := Lib.hid (MM2.out.below al)
        replace hlo : gu + 1 < (wq2.alloc (.cells #[.int .i64 E9, .int .i64 I9] 46)).heap.size := by simp; omega
        clear al
        generalize wq2.alloc (.cells #[.int .i64 E9, .int .i64 I9] 46) = wq3 at hHeld AT7  MM3 hlo ⊢
        generalize wq2.heap.size = gb7 at AT7 hb7 ⊢
        refine wpAnyH_ready (rs := [8]) (by kernel_rfl) (by simp) ?_
        refine AllReadyH.cons (i := 8) rfl (fun K0 hK => ?_) AllReadyH.nil
        refine step_append_lie rps 75 Tryz.underlying75 info_rps rfl rfl 45 rfl (.tmp 42) (.tmp 44) rfl base _ os rfl MM3.out.OR _ _ (E9, I9) rfl AT7 (by have := HLN.out; omega) (by have := HLN.out; omega) (by omega) ?_
        intro go cgo wq4 ho hg hat
        have MM4 := Lib.hid (MM3.out.appR ho hg hat (by omega))
        have hsz8 := hg.size
        have hH := hHeld.grown hg (fun k hk => by rcases hk with rfl | rfl | rfl <;> omega) (fun k e hk => by have := hOR k e; rcases hk with rfl | rfl | rfl <;> omega)
        replace hlo : gu + 1 < wq4.heap.size := by omega
        clear ho hg hat AT7
        refine hK.out _ _ hH (fun hHeld => ?_)
        clear hK K0 hH
        (try simp only [Act.put, sA, sB, sC])
        obtain ⟨y0, y1, y2, y3, y4⟩ := (show _ ∧ _ ∧ _ ∧ _ ∧ _ from ⟨MM4.out.G.cell 0 rfl, MM4.out.G.cell 1 rfl, MM4.out.G.cell 2 rfl, MM4.out.G.cell 3 rfl, MM4.out.G.cell 4 rfl⟩)
        obtain ⟨f0, f1, f2, f3, f4⟩ := (show _ ∧ _ ∧ _ ∧ _ ∧ _ from ⟨MM4.out.G.loose 0, MM4.out.G.loose 1, MM4.out.G.loose 2, MM4.out.G.loose 3, MM4.out.G.loose 4⟩)
        refine wpAnyH_ready (rs := [9]) (by kernel_rfl) (by simp) ?_
        refine AllReadyH.cons (i := 9) rfl (fun K0 hK => ?_) AllReadyH.nil
        go_simp
        refine hK.out _ (((((wq4.setCell ⟨gs + 1, 0, none⟩ (.slice A4 n4 c4)).setCell ⟨gs + 1, 1, none⟩ (.slice B4 q4 d4)).setCell ⟨gs + 1, 2, none⟩ (.slice X4 xn4 xc4)).setCell ⟨gs + 1, 3, none⟩ (.slice Y4 yn4 yc4)).setCell ⟨gs + 1, 4, none⟩ (.int .i64 t4)) (st_on hHeld (fun e => by rcases e with e | e | e <;> omega) (.slice A4 n4 c4) (.slice B4 q4 d4) (.slice X4 xn4 xc4) (.slice Y4 yn4 yc4) (.int .i64 t4)) (fun hHeld => ?_)
        clear hK K0
        (try simp only [Act.put, sA, sB, sC])
        clear y0 y1 y2 y3 y4 f0 f1 f2 f3 f4
        refine tk 10 7 (v := ?_) ?_ ?_
        rotate_left
        · intro w' hSw
          go_simp
          (try with_reducible rfl)
        (try simp only [Act.put, sA, sB, sC])
        refine tk 11 8 (v := ?_) ?_ ?_
        rotate_left
        · intro w' hSw
          go_simp
          (try with_reducible rfl)
        (try simp only [Act.put, sA, sB, sC])
        refine wpAnyH_done (by kernel_rfl) ?_ _
        clear hHeld
        have M10 := MM4.out.put (by omega) (by have := MM4.out.bw; have := HG.out; omega)
        have hxs : (((((wq4.setCell ⟨gs + 1, 0, none⟩ (.slice A4 n4 c4)).setCell ⟨gs + 1, 1, none⟩ (.slice B4 q4 d4)).setCell ⟨gs + 1, 2, none⟩ (.slice X4 xn4 xc4)).setCell ⟨gs + 1, 3, none⟩ (.slice Y4 yn4 yc4)).setCell ⟨gs + 1, 4, none⟩ (.int .i64 t4)).heap.size = wq4.heap.size := by simp [World.setCell]
        go_wp2
        go_roundw
        · exact ⟨k + 1, ⟨A4, n4, c4, B4, q4, d4, X4, xn4, xc4, Y4, yn4, yc4, t4⟩, by omega, by first | rfl | (congr 1; omega), by omega, by rw [HNX.out]; exact M10⟩
        · simp [intOf]; omega
      · go_simp
        have al := (Below.refl wq1.heap.size wq1).alloc (Nat.le_refl _) (.cells #[.int .i64 E9, .int .i64 I9] 46)
        refine hK.out _ (wq1.alloc (.cells #[.int .i64 E9, .int .i64 I9] 46)) (hHeld.trans (On.of al (fun k hk => by rcases hk with rfl | rfl | rfl <;> omega))) (fun hHeld => ?_)
        clear hK K0
        (try simp only [Act.put, sA, sB, sC])
        have AT7 : AtS rps (wq1.alloc (.cells #[.int .i64 E9, .int .i64 I9] 46)) ⟨wq1.heap.size, 0, none⟩ 0 (E9, I9) := AtS.new rfl
        have hb7 : gu + 1 < wq1.heap.size := hlo
        replace AT3 := AT3.below al
        have MM5 := Lib.hid (MM1.out.below al)
        replace hlo : gu + 1 < (wq1.alloc (.cells #[.int .i64 E9, .int .i64 I9] 46)).heap.size := by simp; omega
        clear al
        generalize wq1.alloc (.cells #[.int .i64 E9, .int .i64 I9] 46) = wq5 at hHeld AT7 AT3 MM5 hlo ⊢
        generalize wq1.heap.size = gb7 at AT7 hb7 ⊢
        refine wpAnyH_ready (rs := [4]) (by kernel_rfl) (by simp) ?_
        refine AllReadyH.cons (i := 4) rfl (fun K0 hK => ?_) AllReadyH.nil
        refine step_append_lie evs 74 Tryz.underlying74 info_evs rfl rfl 41 rfl (.tmp 38) (.tmp 40) rfl base _ es rfl MM5.out.OE _ _ ⟨ew, ⟨rk, ro, ra, rb, rm, rl, ru⟩, ekey, eok⟩ rfl AT3 (by have := HLN.out; omega) (by have := HLN.out; omega) (by omega) ?_
        intro ga cga wq6 ho hg hat
        have MM6 := Lib.hid (MM5.out.appE ho hg hat (by omega))
        replace AT7 := AT7.grow hg (fun e => by have := hOE _ e; dsimp only at this; omega)
        have hsz4 := hg.size
        have hH := hHeld.grown hg (fun k hk => by rcases hk with rfl | rfl | rfl <;> omega) (fun k e hk => by have := hOE k e; rcases hk with rfl | rfl | rfl <;> omega)
        replace hlo : gu + 1 < wq6.heap.size := by omega
        clear ho hg hat AT3
        refine hK.out _ _ hH (fun hHeld => ?_)
        clear hK K0 hH
        (try simp only [Act.put, sA, sB, sC])
        refine wpAnyH_ready (rs := [8]) (by kernel_rfl) (by simp) ?_
        refine AllReadyH.cons (i := 8) rfl (fun K0 hK => ?_) AllReadyH.nil
        refine step_append_lie rps 75 Tryz.underlying75 info_rps rfl rfl 45 rfl (.tmp 42) (.tmp 44) rfl base _ os rfl MM6.out.OR _ _ (E9, I9) rfl AT7 (by have := HLN.out; omega) (by have := HLN.out; omega) (by omega) ?_
        intro go cgo wq7 ho hg hat
        have MM7 := Lib.hid (MM6.out.appR ho hg hat (by omega))
        have hsz8 := hg.size
        have hH := hHeld.grown hg (fun k hk => by rcases hk with rfl | rfl | rfl <;> omega) (fun k e hk => by have := hOR k e; rcases hk with rfl | rfl | rfl <;> omega)
        replace hlo : gu + 1 < wq7.heap.size := by omega
        clear ho hg hat AT7
        refine hK.out _ _ hH (fun hHeld => ?_)
        clear hK K0 hH
        (try simp only [Act.put, sA, sB, sC])
        obtain ⟨y0, y1, y2, y3, y4⟩ := (show _ ∧ _ ∧ _ ∧ _ ∧ _ from ⟨MM7.out.G.cell 0 rfl, MM7.out.G.cell 1 rfl, MM7.out.G.cell 2 rfl, MM7.out.G.cell 3 rfl, MM7.out.G.cell 4 rfl⟩)
        obtain ⟨f0, f1, f2, f3, f4⟩ := (show _ ∧ _ ∧ _ ∧ _ ∧ _ from ⟨MM7.out.G.loose 0, MM7.out.G.loose 1, MM7.out.G.loose 2, MM7.out.G.loose 3, MM7.out.G.loose 4⟩)
        refine wpAnyH_ready (rs := [9]) (by kernel_rfl) (by simp) ?_
        refine AllReadyH.cons (i := 9) rfl (fun K0 hK => ?_) AllReadyH.nil
        go_simp
        refine hK.out _ (((((wq7.setCell ⟨gs + 1, 0, none⟩ (.slice A4 n4 c4)).setCell ⟨gs + 1, 1, none⟩ (.slice B4 q4 d4)).setCell ⟨gs + 1, 2, none⟩ (.slice X4 xn4 xc4)).setCell ⟨gs + 1, 3, none⟩ (.slice Y4 yn4 yc4)).setCell ⟨gs + 1, 4, none⟩ (.int .i64 t4)) (st_on hHeld (fun e => by rcases e with e | e | e <;> omega) (.slice A4 n4 c4) (.slice B4 q4 d4) (.slice X4 xn4 xc4) (.slice Y4 yn4 yc4) (.int .i64 t4)) (fun hHeld => ?_)
        clear hK K0
        (try simp only [Act.put, sA, sB, sC])
        clear y0 y1 y2 y3 y4 f0 f1 f2 f3 f4
        refine tk 10 7 (v := ?_) ?_ ?_
        rotate_left
        · intro w' hSw
          go_simp
          (try with_reducible rfl)
        (try simp only [Act.put, sA, sB, sC])
        refine tk 11 8 (v := ?_) ?_ ?_
        rotate_left
        · intro w' hSw
          go_simp
          (try with_reducible rfl)
        (try simp only [Act.put, sA, sB, sC])
        refine wpAnyH_done (by kernel_rfl) ?_ _
        clear hHeld
        have M10 := MM7.out.put (by omega) (by have := MM7.out.bw; have := HG.out; omega)
        have hxs : (((((wq7.setCell ⟨gs + 1, 0, none⟩ (.slice A4 n4 c4)).setCell ⟨gs + 1, 1, none⟩ (.slice B4 q4 d4)).setCell ⟨gs + 1, 2, none⟩ (.slice X4 xn4 xc4)).setCell ⟨gs + 1, 3, none⟩ (.slice Y4 yn4 yc4)).setCell ⟨gs + 1, 4, none⟩ (.int .i64 t4)).heap.size = wq7.heap.size := by simp [World.setCell]
        go_wp2
        go_roundw
        · exact ⟨k + 1, ⟨A4, n4, c4, B4, q4, d4, X4, xn4, xc4, Y4, yn4, yc4, t4⟩, by omega, by first | rfl | (congr 1; omega), by omega, by rw [HNX.out]; exact M10⟩
        · simp [intOf]; omega
    · go_simp
      have al := (Below.refl wq.heap.size wq).alloc (Nat.le_refl _) (.cells #[.int .i64 E9, .int .i64 I9] 46)
      refine hK.out _ (wq.alloc (.cells #[.int .i64 E9, .int .i64 I9] 46)) (hHeld.trans (On.of al (fun k hk => by rcases hk with rfl | rfl | rfl <;> omega))) (fun hHeld => ?_)
      clear hK K0
      (try simp only [Act.put, sA, sB, sC])
      have AT7 : AtS rps (wq.alloc (.cells #[.int .i64 E9, .int .i64 I9] 46)) ⟨wq.heap.size, 0, none⟩ 0 (E9, I9) := AtS.new rfl
      have hb7 : gu + 1 < wq.heap.size := hlo
      have MM8 := Lib.hid (M7.out.below al)
      replace hlo : gu + 1 < (wq.alloc (.cells #[.int .i64 E9, .int .i64 I9] 46)).heap.size := by simp; omega
      clear al
      generalize wq.alloc (.cells #[.int .i64 E9, .int .i64 I9] 46) = wq8 at hHeld AT7  MM8 hlo ⊢
      generalize wq.heap.size = gb7 at AT7 hb7 ⊢
      refine wpAnyH_ready (rs := [3]) (by kernel_rfl) (by simp) ?_
      refine AllReadyH.cons (i := 3) rfl (fun K0 hK => ?_) AllReadyH.nil
      go_simp
      have al := (Below.refl wq8.heap.size wq8).alloc (Nat.le_refl _) (.cells #[.int .i64 ew, .int .i64 rk, .int .i64 ro, .int .i64 ra, .int .i64 rb, .int .i64 rm, .int .i64 rl, .int .i64 ru, .int .i64 ekey, .bool eok] 53)
      refine hK.out _ (wq8.alloc (.cells #[.int .i64 ew, .int .i64 rk, .int .i64 ro, .int .i64 ra, .int .i64 rb, .int .i64 rm, .int .i64 rl, .int .i64 ru, .int .i64 ekey, .bool eok] 53)) (hHeld.trans (On.of al (fun k hk => by rcases hk with rfl | rfl | rfl <;> omega))) (fun hHeld => ?_)
      clear hK K0
      (try simp only [Act.put, sA, sB, sC])
      have AT3 : AtS evs (wq8.alloc (.cells #[.int .i64 ew, .int .i64 rk, .int .i64 ro, .int .i64 ra, .int .i64 rb, .int .i64 rm, .int .i64 rl, .int .i64 ru, .int .i64 ekey, .bool eok] 53)) ⟨wq8.heap.size, 0, none⟩ 0 ⟨ew, ⟨rk, ro, ra, rb, rm, rl, ru⟩, ekey, eok⟩ := AtS.new rfl
      have hb3 : gu + 1 < wq8.heap.size := hlo
      replace AT7 := AT7.below al
      have MM9 := Lib.hid (MM8.out.below al)
      replace hlo : gu + 1 < (wq8.alloc (.cells #[.int .i64 ew, .int .i64 rk, .int .i64 ro, .int .i64 ra, .int .i64 rb, .int .i64 rm, .int .i64 rl, .int .i64 ru, .int .i64 ekey, .bool eok] 53)).heap.size := by simp; omega
      clear al
      generalize wq8.alloc (.cells #[.int .i64 ew, .int .i64 rk, .int .i64 ro, .int .i64 ra, .int .i64 rb, .int .i64 rm, .int .i64 rl, .int .i64 ru, .int .i64 ekey, .bool eok] 53) = wq9 at hHeld AT3 AT7 MM9 hlo ⊢
      generalize wq8.heap.size = gb3 at AT3 hb3 ⊢
      refine wpAnyH_ready (rs := [4]) (by kernel_rfl) (by simp) ?_
      refine AllReadyH.cons (i := 4) rfl (fun K0 hK => ?_) AllReadyH.nil
      refine step_append_lie evs 74 Tryz.underlying74 info_evs rfl rfl 41 rfl (.tmp 38) (.tmp 40) rfl base _ es rfl MM9.out.OE _ _ ⟨ew, ⟨rk, ro, ra, rb, rm, rl, ru⟩, ekey, eok⟩ rfl AT3 (by have := HLN.out; omega) (by have := HLN.out; omega) (by omega) ?_
      intro ga cga wq10 ho hg hat
      have MM10 := Lib.hid (MM9.out.appE ho hg hat (by omega))
      replace AT7 := AT7.grow hg (fun e => by have := hOE _ e; dsimp only at this; omega)
      have hsz4 := hg.size
      have hH := hHeld.grown hg (fun k hk => by rcases hk with rfl | rfl | rfl <;> omega) (fun k e hk => by have := hOE k e; rcases hk with rfl | rfl | rfl <;> omega)
      replace hlo : gu + 1 < wq10.heap.size := by omega
      clear ho hg hat AT3
      refine hK.out _ _ hH (fun hHeld => ?_)
      clear hK K0 hH
      (try simp only [Act.put, sA, sB, sC])
      refine wpAnyH_ready (rs := [8]) (by kernel_rfl) (by simp) ?_
      refine AllReadyH.cons (i := 8) rfl (fun K0 hK => ?_) AllReadyH.nil
      refine step_append_lie rps 75 Tryz.underlying75 info_rps rfl rfl 45 rfl (.tmp 42) (.tmp 44) rfl base _ os rfl MM10.out.OR _ _ (E9, I9) rfl AT7 (by have := HLN.out; omega) (by have := HLN.out; omega) (by omega) ?_
      intro go cgo wq11 ho hg hat
      have MM11 := Lib.hid (MM10.out.appR ho hg hat (by omega))
      have hsz8 := hg.size
      have hH := hHeld.grown hg (fun k hk => by rcases hk with rfl | rfl | rfl <;> omega) (fun k e hk => by have := hOR k e; rcases hk with rfl | rfl | rfl <;> omega)
      replace hlo : gu + 1 < wq11.heap.size := by omega
      clear ho hg hat AT7
      refine hK.out _ _ hH (fun hHeld => ?_)
      clear hK K0 hH
      (try simp only [Act.put, sA, sB, sC])
      obtain ⟨y0, y1, y2, y3, y4⟩ := (show _ ∧ _ ∧ _ ∧ _ ∧ _ from ⟨MM11.out.G.cell 0 rfl, MM11.out.G.cell 1 rfl, MM11.out.G.cell 2 rfl, MM11.out.G.cell 3 rfl, MM11.out.G.cell 4 rfl⟩)
      obtain ⟨f0, f1, f2, f3, f4⟩ := (show _ ∧ _ ∧ _ ∧ _ ∧ _ from ⟨MM11.out.G.loose 0, MM11.out.G.loose 1, MM11.out.G.loose 2, MM11.out.G.loose 3, MM11.out.G.loose 4⟩)
      refine wpAnyH_ready (rs := [9]) (by kernel_rfl) (by simp) ?_
      refine AllReadyH.cons (i := 9) rfl (fun K0 hK => ?_) AllReadyH.nil
      go_simp
      refine hK.out _ (((((wq11.setCell ⟨gs + 1, 0, none⟩ (.slice A4 n4 c4)).setCell ⟨gs + 1, 1, none⟩ (.slice B4 q4 d4)).setCell ⟨gs + 1, 2, none⟩ (.slice X4 xn4 xc4)).setCell ⟨gs + 1, 3, none⟩ (.slice Y4 yn4 yc4)).setCell ⟨gs + 1, 4, none⟩ (.int .i64 t4)) (st_on hHeld (fun e => by rcases e with e | e | e <;> omega) (.slice A4 n4 c4) (.slice B4 q4 d4) (.slice X4 xn4 xc4) (.slice Y4 yn4 yc4) (.int .i64 t4)) (fun hHeld => ?_)
      clear hK K0
      (try simp only [Act.put, sA, sB, sC])
      clear y0 y1 y2 y3 y4 f0 f1 f2 f3 f4
      refine tk 10 7 (v := ?_) ?_ ?_
      rotate_left
      · intro w' hSw
        go_simp
        (try with_reducible rfl)
      (try simp only [Act.put, sA, sB, sC])
      refine tk 11 8 (v := ?_) ?_ ?_
      rotate_left
      · intro w' hSw
        go_simp
        (try with_reducible rfl)
      (try simp only [Act.put, sA, sB, sC])
      refine wpAnyH_done (by kernel_rfl) ?_ _
      clear hHeld
      have M10 := MM11.out.put (by omega) (by have := MM11.out.bw; have := HG.out; omega)
      have hxs : (((((wq11.setCell ⟨gs + 1, 0, none⟩ (.slice A4 n4 c4)).setCell ⟨gs + 1, 1, none⟩ (.slice B4 q4 d4)).setCell ⟨gs + 1, 2, none⟩ (.slice X4 xn4 xc4)).setCell ⟨gs + 1, 3, none⟩ (.slice Y4 yn4 yc4)).setCell ⟨gs + 1, 4, none⟩ (.int .i64 t4)).heap.size = wq11.heap.size := by simp [World.setCell]
      go_wp2
      go_roundw
      · exact ⟨k + 1, ⟨A4, n4, c4, B4, q4, d4, X4, xn4, xc4, Y4, yn4, yc4, t4⟩, by omega, by first | rfl | (congr 1; omega), by omega, by rw [HNX.out]; exact M10⟩
      · simp [intOf]; omega
  · obtain rfl : k = l1 := by omega
    have htk : zk.take k = zk := List.take_of_length_le (by rw [HKL.out]; exact Nat.le_refl _)
    rw [htk] at M1 GX
    have hlen := runA_len (zs := zk) (S := S0)
    have hrun := runA_runs (zs := zk) (R0 := ⟨⟨s0, [], []⟩, []⟩) (S := S0) (by rw [HS0.out]; rfl)
    rw [HS0.out, HKL.out, ← HS0.out] at hlen
    generalize runA S0 zk = Y at M1 GX hlen hrun
    obtain ⟨⟨⟨T, sl, kl⟩, os⟩, es⟩ := Y
    dsimp only at M1 GX hlen hrun
    have hln : es.length = k ∧ os.length = k := by rw [HS0.out] at hlen; simp at hlen; omega
    obtain ⟨EA1, ec, rfl, he1, he2, he3, he4⟩ := M1.out.OE.form
    obtain ⟨OA1, oc, rfl, ho1, ho2, ho3, ho4⟩ := M1.out.OR.form
    have HE1 := Lib.hid he1
    have HO1 := Lib.hid ho1
    rw [hln.1, hln.2] at M1
    rw [hln.1, hln.2]
    have HLN := Lib.hid hln
    have HRU := Lib.hid (erun_any ⟨A1, n1, c1, B1, q1, d1, X1, xn1, xc1, Y1, yn1, yc1, t1⟩ ⟨⟨s0, [], []⟩, []⟩ wr EA1 k ec es M1.out.HS (HH.out.below M1.out.L) he1 hln.1 (by omega) rfl (fun j hj => by
      have g := GoodX.run (R := ⟨⟨s0, [], []⟩, []⟩) (es := es.take j) GD0.out
      exact ⟨g.fits, by have := g.keys; omega, fun _ _ _ => g.tick_⟩))
    rw [hrun] at HRU
    unfold RvRes Sv.val Sv.cells at HRU
    dsimp only at HRU
    have HSA := Lib.hid (fun W V5 V3 (hv : SkAt W V5 T sl kl) (hv' : SkAt W V3 T sl kl) => esame_yes V5 V3 T sl kl W hv hv' GX.out.fits.n GX.out.fits.q GX.out.fits.kl GX.out.fits.sl)
    unfold BoolRes Sv.val Sv.cells at HSA
    have HKS := Lib.hid (fun W A B n cap capb (hl : kl.length = n) (h1 : RdS known W A kl) (h2 : RdS known W B kl) => ksame_yes A B n cap capb kl W hl h1 h2 (by have := GX.out.keys; dsimp only at this; omega))
    unfold BoolRes at HKS
    clear hln hlen hrun he1 he2 he3 he4 ho1 ho2 ho3 ho4 htk
    obtain ⟨x0, x1, x2, x3, x4⟩ := (show _ ∧ _ ∧ _ ∧ _ ∧ _ from ⟨M1.out.S.cell 0 rfl, M1.out.S.cell 1 rfl, M1.out.S.cell 2 rfl, M1.out.S.cell 3 rfl, M1.out.S.cell 4 rfl⟩)
    go_upto_region 15 with (first
      | (go_at_call 23; refine HRU.out.mono ?_; rintro _ wf ⟨V, gf, nf, cf, rfl, hv, ho, hn, hb⟩
         obtain ⟨A5, n5, c5, B5, q5, d5, X5, xn5, xc5, Y5, yn5, yc5, t5⟩ := V
         dsimp only at hv ho hn ⊢
         have HVf := Lib.hid hv
         have HOf := Lib.hid ho
         have HNf := Lib.hid hn
         have HXf := Lib.hid hb
         clear hv ho hn hb x0 x1 x2 x3 x4))
    have M2 := Lib.hid (M1.out.below HXf.out)
    have HO2 := Lib.hid (HO1.out.below HXf.out)
    clear M1 HRU HO1 HE1
    obtain rfl : nf = k := by have := HNf.out; have := HLN.out; omega
    have al := (Below.refl wf.heap.size wf).alloc (Nat.le_refl _) (.cells #[.slice A5 n5 c5, .slice B5 q5 d5, .slice X5 xn5 xc5, .slice Y5 yn5 yc5, .int .i64 t5] 35)
    have U := Lib.hid (Blk.new wf 35 #[.slice A5 n5 c5, .slice B5 q5 d5, .slice X5 xn5 xc5, .slice Y5 yn5 yc5, .int .i64 t5])
    have M3 := Lib.hid (M2.out.below al)
    have HV1 := Lib.hid (HVf.out.below al)
    have HOa := Lib.hid (HOf.out.below al)
    have HOb := Lib.hid (HO2.out.below al)
    clear al M2 HVf HOf HO2 HXf
    generalize wf.alloc (.cells #[.slice A5 n5 c5, .slice B5 q5 d5, .slice X5 xn5 xc5, .slice Y5 yn5 yc5, .int .i64 t5] 35) = wg at U M3 HV1 HOa HOb ⊢
    generalize wf.heap.size = gx at U HOa ⊢
    obtain ⟨x0, x1, x2, x3, x4⟩ := (show _ ∧ _ ∧ _ ∧ _ ∧ _ from ⟨U.out.cell 0 rfl, U.out.cell 1 rfl, U.out.cell 2 rfl, U.out.cell 3 rfl, U.out.cell 4 rfl⟩)
    obtain ⟨y0, y1, y2, y3, y4⟩ := (show _ ∧ _ ∧ _ ∧ _ ∧ _ from ⟨M3.out.G.cell 0 rfl, M3.out.G.cell 1 rfl, M3.out.G.cell 2 rfl, M3.out.G.cell 3 rfl, M3.out.G.cell 4 rfl⟩)
    have S1 := Lib.hid (HSA.out wg ⟨A5, n5, c5, B5, q5, d5, X5, xn5, xc5, Y5, yn5, yc5, t5⟩ ⟨A3, n3, c3, B3, q3, d3, X3, xn3, xc3, Y3, yn3, yc3, t3⟩ HV1.out M3.out.HV)
    dsimp only at S1
    go_upto_region 17 with (first
      | (go_at_call 22; refine S1.out.mono ?_; rintro _ wi ⟨rfl, hbi⟩
         have HXi := Lib.hid hbi
         clear hbi x0 x1 x2 x3 x4 y0 y1 y2 y3 y4))
    clear S1 HSA
    have M4 := Lib.hid (M3.out.below HXi.out)
    have HV2 := Lib.hid (HV1.out.below HXi.out)
    have U2 := Lib.hid (U.out.later HXi.out)
    have HOc := Lib.hid (HOa.out.below HXi.out)
    have HOd := Lib.hid (HOb.out.below HXi.out)
    clear M3 HV1 U HOa HOb HXi
    go_wp2
    go_loopw [66] (fun i wj => ∃ j : Nat, j ≤ nf ∧ i = .int .i64 (j : Int) ∧ Below wi.heap.size wi wj) (fun i _ => nf - (intOf i).toNat)
    case atStart => exact ⟨0, Nat.zero_le _, rfl, Below.refl _ _⟩
    case round =>
     obtain ⟨j, hj, rfl, hbj⟩ := hrel
     by_cases hlt2 : j < nf
     · obtain ⟨⟨ze, zi⟩, hz⟩ : ∃ z, os[j]? = some z := ⟨_, List.getElem?_eq_getElem (by have := HLN.out; omega)⟩
       have u0 : wr.cell? ⟨gf, j * 2, none⟩ = some (.int .i64 ze) := (HOc.out.below hbj).at_ hz 0 _ rfl
       have u1 : wr.cell? ⟨gf, j * 2 + 1, none⟩ = some (.int .i64 zi) := (HOc.out.below hbj).at_ hz 1 _ rfl
       obtain ⟨ad2, rfl, hat2⟩ := (HOd.out.below hbj).at_ hz
       obtain ⟨v0, v1⟩ := rps_cells hat2
       go_upto_region 20 with fail
       refine wp_region_held_drew (S := fun w' => Below wr.heap.size wr w') (by kernel_rfl) (Below.refl _ _).drew (fun hHeld => ?_)
       refine tk 0 69 (v := ?_) ?_ ?_
       rotate_left
       · intro w' hSw
         go_simp
         (try with_reducible rfl)
       (try simp only [Act.put, sA, sB, sC])
       refine tk 1 70 (v := ?_) ?_ ?_
       rotate_left
       · intro w' hSw
         go_simp
         (try with_reducible rfl)
       (try simp only [Act.put, sA, sB, sC])
       refine tk 2 71 (v := ?_) ?_ ?_
       rotate_left
       · intro w' hSw
         go_simp
         (try with_reducible rfl)
       (try simp only [Act.put, sA, sB, sC])
       refine tk 3 72 (v := ?_) ?_ ?_
       rotate_left
       · intro w' hSw
         have hSw' := hSw
         (try dsimp only at hSw')
         have k0 := (hSw'.cell (cell_lt u0)).trans u0
         have k1 := (hSw'.cell (cell_lt u1)).trans u1
         go_simp
         (try with_reducible rfl)
       (try simp only [Act.put, sA, sB, sC])
       refine tk 4 73 (v := ?_) ?_ ?_
       rotate_left
       · intro w' hSw
         go_simp
         (try with_reducible rfl)
       (try simp only [Act.put, sA, sB, sC])
       refine tk 5 74 (v := ?_) ?_ ?_
       rotate_left
       · intro w' hSw
         go_simp
         (try with_reducible rfl)
       (try simp only [Act.put, sA, sB, sC])
       refine tk 6 75 (v := ?_) ?_ ?_
       rotate_left
       · intro w' hSw
         go_simp
         (try with_reducible rfl)
       (try simp only [Act.put, sA, sB, sC])
       refine tk 7 76 (v := ?_) ?_ ?_
       rotate_left
       · intro w' hSw
         have hSw' := hSw
         (try dsimp only at hSw')
         have k0 := (hSw'.cell (cell_lt v0)).trans v0
         have k1 := (hSw'.cell (cell_lt v1)).trans v1
         go_simp
         (try with_reducible rfl)
       (try simp only [Act.put, sA, sB, sC])
       refine tk 8 77 (v := ?_) ?_ ?_
       rotate_left
       · intro w' hSw
         go_simp
         (try with_reducible rfl)
       (try simp only [Act.put, sA, sB, sC])
       refine wpAnyH_done (by kernel_rfl) ?_ _
       have hbk2 : Below wi.heap.size wi wr.drew := hbj.drew
       clear u0 u1 v0 v1 hat2
       go_wp2
       go_roundw
       · exact ⟨j + 1, by omega, by first | rfl | (congr 1; omega), hbk2⟩
       · simp [intOf]; omega
     · obtain rfl : j = nf := by omega
       have M5 := Lib.hid (M4.out.below hbj)
       have HV3 := Lib.hid (HV2.out.below hbj)
       have U3 := Lib.hid (U2.out.later hbj)
       have hyn := HV3.out.yn
       have hyn2 := M5.out.HV.yn
       dsimp only at hyn hyn2
       obtain rfl : yn5 = yn3 := by omega
       have K1 := Lib.hid (HKS.out wr Y5 Y3 yn5 yc5 yc3 hyn HV3.out.kn M5.out.HV.kn)
       have x3 := U3.out.cell 3 rfl
       have y3 := M5.out.G.cell 3 rfl
       clear hyn hyn2 hbj
       go_wp2_with (first | (go_at_call 24; refine K1.out.mono ?_; rintro _ wk ⟨rfl, hbk⟩))
       go_ret
       exact ⟨rfl, M5.out.L.trans (hbk.mono M5.out.L.size)⟩
theorem engineRun_walk (w : World) (v0 : Value) (w0 : BookAt w v0) (a1 : Option Addr) (len1 cap1 : Nat) (w1 : IsRecs eacts EA.fits w a1 len1 cap1) (r1 : cap1 ≤ 1048576) (hh : HasErr w) :
  Calls Tryz.prog 6 #[v0, .slice a1 len1 cap1] w fun e w' => e = .returned (.bool true) ∧ Below w.heap.size w w' := by
 obtain ⟨zk, kl, kr, kf, klc, _, _⟩ := recs_list w1
 exact engineRun_core w v0 w0 a1 len1 cap1 zk kl kr kf (by omega) hh
end Go.Proofs.YteifgmdaggiaaaaGreatDoor
