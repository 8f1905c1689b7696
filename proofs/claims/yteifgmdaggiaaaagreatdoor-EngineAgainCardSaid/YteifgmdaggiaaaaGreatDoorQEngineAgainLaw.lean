/-
  The law EngineAgain: what was told once is told again, whatever happened since.
-/
import Derived.Test.YteifgmdaggiaaaaGreatDoorQEngAwake
import Derived.Test.YteifgmdaggiaaaaGreatDoorQEngSame
import Derived.Test.YteifgmdaggiaaaaGreatDoorQGrP
import Derived.Test.YteifgmdaggiaaaaGreatDoorQEngAgainPlain
import Derived.Test.YteifgmdaggiaaaaGreatDoorQApart
import Derived.Test.YteifgmdaggiaaaaGreatDoorQGrA
import Derived.Deep.CutRange
set_option linter.unusedSimpArgs false
namespace Go.Proofs.YteifgmdaggiaaaaGreatDoor
open Go Go.RowKit
set_option linter.unusedVariables false
theorem egO_sub {X : Eg} {e : Ev} (h : e.what = 0) : egO X e = subO X e.rq := by unfold egO egOT; rw [if_pos h]
theorem EA.ev_may {z : EA} (hz : z.fits) {sl : List Sg} (h : (z.ev sl).what = 0) : (z.ev sl).rq.may := by
 unfold EA.ev at h ⊢
 split at h
 · rename_i h3
   rw [if_pos h3]
   exact z.ask.req_may hz.2.1
 · split at h <;> cases h
/-- What was told first is known. -/
def Mine (X : Eg) (is : Bool) (r : Rq) (e i : Int) : Prop := is = true → r.may ∧ (⟨r, e, i, true⟩ : Kn) ∈ X.kl
set_option maxRecDepth 100000 in
set_option maxHeartbeats 4000000 in
theorem engineAgain_core (w : World) (b : Value) (hb : BookAt w b)
  (ak : Option Addr) (l1 cz1 : Nat) (zk : List EA) (hkl : zk.length = l1) (hk : RdS eacts w ak zk) (hkf : ∀ (j : Nat) z, zk[j]? = some z → z.fits) (hl1 : l1 ≤ 9223372036854775807) (at8 : Nat) (hat8 : at8 < 256) (hh : HasErr w) :
  Calls Tryz.prog 5 #[b, .slice ak l1 cz1, .int .u8 (at8 : Int)] w fun e w' => e = .returned (.bool true) ∧ Below w.heap.size w w' := by
 obtain ⟨m4, hm4⟩ : ∃ k : Nat, at8 % 4 = k := ⟨_, rfl⟩
 have hk1 : (at8 : Int) % 4 = (m4 : Int) := by omega
 have hk2 : (at8 : Int).tmod 4 = (m4 : Int) := by rw [Int.tmod_eq_emod_of_nonneg (by omega)]; exact hk1
 have hk3 : m4 < 4 := by omega
 have hwm : IntKind.i64.wrap (m4 : Int) = (m4 : Int) := by rw [IntKind.wrap_i64]; omega
 have HST := Lib.hid (fun W (hW : Below w.heap.size w W) => state_any hb none 0 0 [] rfl 0 (by decide) (by decide) W hW RdS.nil (fun j z h => by simp at h))
 have HAW := Lib.hid (fun W (hW : Below w.heap.size w W) => eawake_ok W (hh.below hW))
 have HH := Lib.hid hh
 have HZK := Lib.hid hk
 have HKL := Lib.hid hkl
 have HKF := Lib.hid hkf
 obtain ⟨CA, HA, LA, cl, cc, hl', hc, ll, lc', cs, hs, ls', rfl, h1, h2, h3, h4, h5, h6, h7, h8, h9⟩ := hb.form
 unfold Sv.val Sv.cells at HST
 clear h1 h2 h3 h4 h5 h6 h7 h8 h9 hb hk hkl hkf hh hm4
 go_enter Tryz.func5, Tryz.ntmps5
 go_wp2_with fail
 refine (HAW.out _ ((Below.refl w.heap.size w).alloc (Nat.le_refl _) (.cells #[.slice CA cl cc, .slice HA hl' hc, .slice LA ll lc'] 25))).mono ?_
 rintro _ wa ⟨rfl, hba⟩
 have HBk := Lib.hid ((Blk.new w 25 #[.slice CA cl cc, .slice HA hl' hc, .slice LA ll lc']).later hba)
 have HWA := Lib.hid (((Below.refl w.heap.size w).alloc (Nat.le_refl _) (.cells #[.slice CA cl cc, .slice HA hl' hc, .slice LA ll lc'] 25)).trans (hba.mono (by simp)))
 clear hba HAW
 obtain ⟨b0, b1, b2⟩ := (show _ ∧ _ ∧ _ from ⟨HBk.out.cell 0 rfl, HBk.out.cell 1 rfl, HBk.out.cell 2 rfl⟩)
 go_wp2_with fail
 refine (HST.out _ HWA.out).mono ?_
 rintro _ w1 ⟨V1, s0, rfl, hv1, hmd, hb1⟩
 have HL_0 := Lib.hid (HWA.out.trans (hb1.mono HWA.out.size))
 have GD0 := Lib.hid (good_new hmd.ok (by have h1 := hmd.pays; omega))
 have HV_0 := Lib.hid hv1.sk
 obtain ⟨A1, n1, c1, B1, q1, d1, X1, xn1, xc1, Y1, yn1, yc1, t1⟩ := V1
 dsimp only at HV_0 ⊢
 clear hv1 hb1 hmd HST HWA HBk b0 b1 b2
 have hg : w.heap.size ≤ w1.heap.size := HL_0.out.size
 go_upto_region 6 with fail
 have al := (Below.refl w1.heap.size w1).alloc (Nat.le_refl _) (.cells #[.slice A1 n1 c1, .slice B1 q1 d1, .slice X1 xn1 xc1, .slice Y1 yn1 yc1, .int .i64 t1] 35)
 replace al := al.alloc (by simp; try omega) (.cells #[.int .i64 0, .int .i64 0, .int .i64 0, .int .i64 0, .int .i64 0, .int .i64 0, .int .i64 0] 42)
 replace al := al.alloc (by simp; try omega) (.cells rp0 46)
 have nb0 := ((Blk.new w1 35 #[.slice A1 n1 c1, .slice B1 q1 d1, .slice X1 xn1 xc1, .slice Y1 yn1 yc1, .int .i64 t1]).more (.cells #[.int .i64 0, .int .i64 0, .int .i64 0, .int .i64 0, .int .i64 0, .int .i64 0, .int .i64 0] 42)).more (.cells rp0 46)
 have nb1 := (Blk.new (w1.alloc (.cells #[.slice A1 n1 c1, .slice B1 q1 d1, .slice X1 xn1 xc1, .slice Y1 yn1 yc1, .int .i64 t1] 35)) 42 #[.int .i64 0, .int .i64 0, .int .i64 0, .int .i64 0, .int .i64 0, .int .i64 0, .int .i64 0]).more (.cells rp0 46)
 rw [alloc_size] at nb1
 have nb2 := Blk.new ((w1.alloc (.cells #[.slice A1 n1 c1, .slice B1 q1 d1, .slice X1 xn1 xc1, .slice Y1 yn1 yc1, .int .i64 t1] 35)).alloc (.cells #[.int .i64 0, .int .i64 0, .int .i64 0, .int .i64 0, .int .i64 0, .int .i64 0, .int .i64 0] 42)) 46 rp0
 rw [alloc_size, alloc_size] at nb2
 have HL_1 := Lib.hid (HL_0.out.trans (al.mono HL_0.out.size))
 have HV_1 := Lib.hid (HV_0.out.below al)
 clear al HL_0 HV_0
 have G_1 := Lib.hid (nb0)
 have R_1 := Lib.hid (nb1)
 have F_1 := Lib.hid (nb2)
 clear nb0 nb1 nb2
 generalize ((w1.alloc (.cells #[.slice A1 n1 c1, .slice B1 q1 d1, .slice X1 xn1 xc1, .slice Y1 yn1 yc1, .int .i64 t1] 35)).alloc (.cells #[.int .i64 0, .int .i64 0, .int .i64 0, .int .i64 0, .int .i64 0, .int .i64 0, .int .i64 0] 42)).alloc (.cells rp0 46) = w2 at HL_1 HV_1 G_1 R_1 F_1 ⊢
 generalize w1.heap.size = g at G_1 R_1 F_1 hg ⊢
 go_wp2
 go_loopw [10, 24] (fun iv i wr => ∃ (k : Nat) (V : Sv) (X : Eg) (is : Bool) (r : Rq) (e0 i0 : Int), k ≤ l1 ∧ i = .int .i64 (k : Int) ∧ iv = .bool is ∧ Blk wr g 35 V.cells ∧ Blk wr (g + 1) 42 #[.int .i64 r.key, .int .i64 r.op, .int .i64 r.a, .int .i64 r.b, .int .i64 r.amt, .int .i64 r.legs, .int .i64 r.til] ∧ Blk wr (g + 1 + 1) 46 #[.int .i64 e0, .int .i64 i0] ∧ SkAt wr V X.T X.sl X.kl ∧ GoodX X ∧ Mine X is r e0 i0 ∧ Below w.heap.size w wr) (fun _ i _ => l1 - (intOf i).toNat)
 case atStart => exact ⟨0, ⟨A1, n1, c1, B1, q1, d1, X1, xn1, xc1, Y1, yn1, yc1, t1⟩, ⟨s0, [], []⟩, false, Rq.zero, 0, 0, Nat.zero_le _, rfl, rfl, G_1.out, R_1.out, F_1.out, HV_1.out, GD0.out, (fun h => by cases h), HL_1.out⟩
 case round =>
  obtain ⟨k, V, X, is, q, e0, i0, hk, rfl, rfl, hG, hR, hF, hV, hGX, hMi, hB⟩ := hrel
  obtain ⟨A3, n3, c3, B3, q3, d3, X3, xn3, xc3, Y3, yn3, yc3, t3⟩ := V
  obtain ⟨qk, qo, qa', qb', qm, ql, qu⟩ := q
  unfold Sv.cells at hG
  dsimp only at hG hR
  have G_0 := Lib.hid hG
  have R_0 := Lib.hid hR
  have F_0 := Lib.hid hF
  have HV_0 := Lib.hid hV
  have HL_0 := Lib.hid hB
  have GX := Lib.hid hGX
  have MI := Lib.hid hMi
  clear hG hR hF hV hB hGX hMi HL_1 HV_1 G_1 R_1 F_1
  by_cases hlt : k < l1
  · obtain ⟨z, hz⟩ : ∃ z, zk[k]? = some z := ⟨_, List.getElem?_eq_getElem (by rw [HKL.out]; exact hlt)⟩
    obtain ⟨ad, rfl, hat⟩ := (HZK.out.below HL_0.out).at_ hz
    obtain ⟨p0, p1, p2, p3, p4, p5, p6, p7, p8, p9⟩ := ea_cells hat
    have hfz := HKF.out k z hz
    obtain ⟨T, sl, kl⟩ := X
    dsimp only at HV_0
    have HEV := Lib.hid (fun W (hv : SkAt W ⟨A3, n3, c3, B3, q3, d3, X3, xn3, xc3, Y3, yn3, yc3, t3⟩ T sl kl) => event_any z hfz ⟨A3, n3, c3, B3, q3, d3, X3, xn3, xc3, Y3, yn3, yc3, t3⟩ T sl kl W hv (by have := GX.out.few; dsimp only at this; omega))
    unfold EvRes at HEV
    have hem := EA.ev_may hfz (sl := sl)
    obtain ⟨e, he⟩ : ∃ e, z.ev sl = e := ⟨_, rfl⟩
    rw [he] at HEV hem
    have HD1 := Lib.hid (fun W (h1 : SkAt W ⟨A3, n3, c3, B3, q3, d3, X3, xn3, xc3, Y3, yn3, yc3, t3⟩ T sl kl) (h2 : Below w.heap.size w W) => edo_full ⟨A3, n3, c3, B3, q3, d3, X3, xn3, xc3, Y3, yn3, yc3, t3⟩ T sl kl e W h1 GX.out.fits (by have := GX.out.keys; dsimp only at this; omega) (HH.out.below h2) (fun _ => GX.out.tick_))
    unfold EgB at HD1
    have GX2 := Lib.hid (GX.out.ev e)
    have MI2 := Lib.hid (show Mine (egO ⟨T, sl, kl⟩ e).X is ⟨qk, qo, qa', qb', qm, ql, qu⟩ e0 i0 from fun h => ⟨(MI.out h).1, GX.out.keep e (MI.out h).2 rfl⟩)
    have MI3 := Lib.hid (show e.what = 0 → (egO ⟨T, sl, kl⟩ e).E ≠ 10 → (egO ⟨T, sl, kl⟩ e).E ≠ 5 → (egO ⟨T, sl, kl⟩ e).E ≠ 7 → Mine (egO ⟨T, sl, kl⟩ e).X true e.rq (egO ⟨T, sl, kl⟩ e).E (egO ⟨T, sl, kl⟩ e).I from fun h0 h1 h2 h3 _ => by
      rw [egO_sub h0] at h1 h2 h3 ⊢
      exact ⟨hem h0, sub_told (hem h0) h1 h2 h3⟩)
    have hs4 : 4 ≤ (egO ⟨T, sl, kl⟩ e).X.T.acs.length := by have := (right_len GX2.out.fits.rt).1; omega
    generalize egO ⟨T, sl, kl⟩ e = OE at HD1 GX2 MI2 MI3 hs4
    obtain ⟨⟨T9, S9, K9⟩, E9, I9⟩ := OE
    dsimp only at HD1 GX2 MI2 MI3 hs4
    obtain ⟨what, ⟨key, op, qa, qb, amt, legs, til⟩, n, ok⟩ := z
    obtain ⟨ew, ⟨rk, ro, ra, rb, rm, rl, ru⟩, ekey, eok⟩ := e
    unfold EA.cells Sv.val Sv.cells Ev.cells at HEV
    unfold Sv.val Sv.cells Ev.cells at HD1
    dsimp only at p0 p1 p2 p3 p4 p5 p6 p7 p8 p9 HEV HD1 MI3
    clear hat hz hfz he hem MI GX
    go_upto_region 10 with fail
    have al := (Below.refl wr.heap.size wr).alloc (Nat.le_refl _) (.cells #[.int .u8 (what : Int), .int .u8 (key : Int), .int .u8 (op : Int), .int .u8 (qa : Int), .int .u8 (qb : Int), .int .u16 (amt : Int), .int .u8 (legs : Int), .int .u8 (til : Int), .int .u8 (n : Int), .bool ok] 58)
    have nb0 := Blk.new wr 58 #[.int .u8 (what : Int), .int .u8 (key : Int), .int .u8 (op : Int), .int .u8 (qa : Int), .int .u8 (qb : Int), .int .u16 (amt : Int), .int .u8 (legs : Int), .int .u8 (til : Int), .int .u8 (n : Int), .bool ok]
    have HL_1 := Lib.hid (HL_0.out.trans (al.mono HL_0.out.size))
    have HV_1 := Lib.hid (HV_0.out.below al)
    have G_1 := Lib.hid (G_0.out.later al)
    have R_1 := Lib.hid (R_0.out.later al)
    have F_1 := Lib.hid (F_0.out.later al)
    clear al HL_0 HV_0 G_0 R_0 F_0
    have Q_1 := Lib.hid (nb0)
    clear nb0
    generalize wr.alloc (.cells #[.int .u8 (what : Int), .int .u8 (key : Int), .int .u8 (op : Int), .int .u8 (qa : Int), .int .u8 (qb : Int), .int .u16 (amt : Int), .int .u8 (legs : Int), .int .u8 (til : Int), .int .u8 (n : Int), .bool ok] 58) = wb at HL_1 HV_1 G_1 R_1 F_1 Q_1 ⊢
    clear p0 p1 p2 p3 p4 p5 p6 p7 p8 p9
    obtain ⟨r0, r1, r2, r3, r4, r5, r6, r7, r8, r9⟩ := (show _ ∧ _ ∧ _ ∧ _ ∧ _ ∧ _ ∧ _ ∧ _ ∧ _ ∧ _ from ⟨Q_1.out.cell 0 rfl, Q_1.out.cell 1 rfl, Q_1.out.cell 2 rfl, Q_1.out.cell 3 rfl, Q_1.out.cell 4 rfl, Q_1.out.cell 5 rfl, Q_1.out.cell 6 rfl, Q_1.out.cell 7 rfl, Q_1.out.cell 8 rfl, Q_1.out.cell 9 rfl⟩)
    obtain ⟨x0, x1, x2, x3, x4⟩ := (show _ ∧ _ ∧ _ ∧ _ ∧ _ from ⟨G_1.out.cell 0 rfl, G_1.out.cell 1 rfl, G_1.out.cell 2 rfl, G_1.out.cell 3 rfl, G_1.out.cell 4 rfl⟩)
    go_upto_region 11 with (first
      | (go_at_call 15; refine (HEV.out _ HV_1.out).mono ?_; rintro _ wc ⟨rfl, hb⟩
         have HXc := Lib.hid hb
         clear hb r0 r1 r2 r3 r4 r5 r6 r7 r8 r9 x0 x1 x2 x3 x4))
    clear Q_1
    have HL_2 := Lib.hid (HL_1.out.trans (HXc.out.mono HL_1.out.size))
    have HV_2 := Lib.hid (HV_1.out.below HXc.out)
    have G_2 := Lib.hid (G_1.out.later HXc.out)
    have R_2 := Lib.hid (R_1.out.later HXc.out)
    have F_2 := Lib.hid (F_1.out.later HXc.out)
    clear HL_1 HV_1 G_1 R_1 F_1
    clear HXc HEV
    have hgc : g + 1 + 1 < wc.heap.size := F_2.out.lt
    have al := (Below.refl wc.heap.size wc).alloc (Nat.le_refl _) (.cells #[.int .i64 ew, .int .i64 rk, .int .i64 ro, .int .i64 ra, .int .i64 rb, .int .i64 rm, .int .i64 rl, .int .i64 ru, .int .i64 ekey, .bool eok] 53)
    have nb0 := Blk.new wc 53 #[.int .i64 ew, .int .i64 rk, .int .i64 ro, .int .i64 ra, .int .i64 rb, .int .i64 rm, .int .i64 rl, .int .i64 ru, .int .i64 ekey, .bool eok]
    have HL_3 := Lib.hid (HL_2.out.trans (al.mono HL_2.out.size))
    have HV_3 := Lib.hid (HV_2.out.below al)
    have G_3 := Lib.hid (G_2.out.later al)
    have R_3 := Lib.hid (R_2.out.later al)
    have F_3 := Lib.hid (F_2.out.later al)
    clear al HL_2 HV_2 G_2 R_2 F_2
    have E_3 := Lib.hid (nb0)
    clear nb0
    generalize wc.alloc (.cells #[.int .i64 ew, .int .i64 rk, .int .i64 ro, .int .i64 ra, .int .i64 rb, .int .i64 rm, .int .i64 rl, .int .i64 ru, .int .i64 ekey, .bool eok] 53) = wd at HL_3 HV_3 G_3 R_3 F_3 E_3 ⊢
    generalize wc.heap.size = ge at E_3 hgc ⊢
    have D1 := Lib.hid (HD1.out wd HV_3.out HL_3.out)
    obtain ⟨r0, r1, r2, r3, r4, r5, r6, r7, r8, r9⟩ := (show _ ∧ _ ∧ _ ∧ _ ∧ _ ∧ _ ∧ _ ∧ _ ∧ _ ∧ _ from ⟨E_3.out.cell 0 rfl, E_3.out.cell 1 rfl, E_3.out.cell 2 rfl, E_3.out.cell 3 rfl, E_3.out.cell 4 rfl, E_3.out.cell 5 rfl, E_3.out.cell 6 rfl, E_3.out.cell 7 rfl, E_3.out.cell 8 rfl, E_3.out.cell 9 rfl⟩)
    obtain ⟨x0, x1, x2, x3, x4⟩ := (show _ ∧ _ ∧ _ ∧ _ ∧ _ from ⟨G_3.out.cell 0 rfl, G_3.out.cell 1 rfl, G_3.out.cell 2 rfl, G_3.out.cell 3 rfl, G_3.out.cell 4 rfl⟩)
    go_upto_region 12 with (first
      | (go_at_call 13; refine D1.out.mono ?_; rintro _ we ⟨V, rfl, hv, hb, hnw⟩
         obtain ⟨A4, n4, c4, B4, q4, d4, X4, xn4, xc4, Y4, yn4, yc4, t4⟩ := V
         dsimp only at hv ⊢
         have HVa := Lib.hid hv
         have HXe := Lib.hid hb
         clear hv hb hnw r0 r1 r2 r3 r4 r5 r6 r7 r8 r9 x0 x1 x2 x3 x4))
    clear HV_3
    have HL_4 := Lib.hid (HL_3.out.trans (HXe.out.mono HL_3.out.size))
    have G_4 := Lib.hid (G_3.out.later HXe.out)
    have R_4 := Lib.hid (R_3.out.later HXe.out)
    have F_4 := Lib.hid (F_3.out.later HXe.out)
    have E_4 := Lib.hid (E_3.out.later HXe.out)
    clear HL_3 G_3 R_3 F_3 E_3
    have HP_4 := Lib.hid (HVa.out)
    clear HXe HVa D1 HD1
    have hge : ge < we.heap.size := E_4.out.lt
    have al := (Below.refl we.heap.size we).alloc (Nat.le_refl _) (.cells #[.slice A4 n4 c4, .slice B4 q4 d4, .slice X4 xn4 xc4, .slice Y4 yn4 yc4, .int .i64 t4] 35)
    replace al := al.alloc (by simp; try omega) (.cells #[.int .i64 E9, .int .i64 I9] 46)
    have nb0 := (Blk.new we 35 #[.slice A4 n4 c4, .slice B4 q4 d4, .slice X4 xn4 xc4, .slice Y4 yn4 yc4, .int .i64 t4]).more (.cells #[.int .i64 E9, .int .i64 I9] 46)
    have nb1 := Blk.new (we.alloc (.cells #[.slice A4 n4 c4, .slice B4 q4 d4, .slice X4 xn4 xc4, .slice Y4 yn4 yc4, .int .i64 t4] 35)) 46 #[.int .i64 E9, .int .i64 I9]
    rw [alloc_size] at nb1
    have HL_5 := Lib.hid (HL_4.out.trans (al.mono HL_4.out.size))
    have G_5 := Lib.hid (G_4.out.later al)
    have R_5 := Lib.hid (R_4.out.later al)
    have F_5 := Lib.hid (F_4.out.later al)
    have E_5 := Lib.hid (E_4.out.later al)
    have HP_5 := Lib.hid (HP_4.out.below al)
    clear al HL_4 G_4 R_4 F_4 E_4 HP_4
    have U_5 := Lib.hid (nb0)
    have P_5 := Lib.hid (nb1)
    clear nb0 nb1
    generalize (we.alloc (.cells #[.slice A4 n4 c4, .slice B4 q4 d4, .slice X4 xn4 xc4, .slice Y4 yn4 yc4, .int .i64 t4] 35)).alloc (.cells #[.int .i64 E9, .int .i64 I9] 46) = wn at HL_5 G_5 R_5 F_5 E_5 HP_5 U_5 P_5 ⊢
    generalize we.heap.size = gu at U_5 P_5 hge ⊢
    obtain ⟨x0, x1, x2, x3, x4⟩ := (show _ ∧ _ ∧ _ ∧ _ ∧ _ from ⟨U_5.out.cell 0 rfl, U_5.out.cell 1 rfl, U_5.out.cell 2 rfl, U_5.out.cell 3 rfl, U_5.out.cell 4 rfl⟩)
    obtain ⟨y0, y1, y2, y3, y4⟩ := (show _ ∧ _ ∧ _ ∧ _ ∧ _ from ⟨G_5.out.cell 0 rfl, G_5.out.cell 1 rfl, G_5.out.cell 2 rfl, G_5.out.cell 3 rfl, G_5.out.cell 4 rfl⟩)
    obtain ⟨f0, f1, f2, f3, f4⟩ := (show _ ∧ _ ∧ _ ∧ _ ∧ _ from ⟨G_5.out.loose 0, G_5.out.loose 1, G_5.out.loose 2, G_5.out.loose 3, G_5.out.loose 4⟩)
    go_upto_region 13 with fail
    clear x0 x1 x2 x3 x4 y0 y1 y2 y3 y4 f0 f1 f2 f3 f4
    clear U_5
    have HL_6 := Lib.hid (st_below HL_5.out (show w.heap.size ≤ g by omega) (.slice A4 n4 c4) (.slice B4 q4 d4) (.slice X4 xn4 xc4) (.slice Y4 yn4 yc4) (.int .i64 t4))
    have G_6 := Lib.hid (st_put G_5.out rfl (.slice A4 n4 c4) (.slice B4 q4 d4) (.slice X4 xn4 xc4) (.slice Y4 yn4 yc4) (.int .i64 t4))
    have R_6 := Lib.hid (st_other R_5.out (show g ≠ g + 1 by omega) (.slice A4 n4 c4) (.slice B4 q4 d4) (.slice X4 xn4 xc4) (.slice Y4 yn4 yc4) (.int .i64 t4))
    have F_6 := Lib.hid (st_other F_5.out (show g ≠ g + 1 + 1 by omega) (.slice A4 n4 c4) (.slice B4 q4 d4) (.slice X4 xn4 xc4) (.slice Y4 yn4 yc4) (.int .i64 t4))
    have E_6 := Lib.hid (st_other E_5.out (show g ≠ ge by omega) (.slice A4 n4 c4) (.slice B4 q4 d4) (.slice X4 xn4 xc4) (.slice Y4 yn4 yc4) (.int .i64 t4))
    have HP_6 := Lib.hid (sk_put (V0 := ⟨A3, n3, c3, B3, q3, d3, X3, xn3, xc3, Y3, yn3, yc3, t3⟩) HP_5.out G_5.out (.slice A4 n4 c4) (.slice B4 q4 d4) (.slice X4 xn4 xc4) (.slice Y4 yn4 yc4) (.int .i64 t4))
    have P_6 := Lib.hid (st_other P_5.out (show g ≠ gu + 1 by omega) (.slice A4 n4 c4) (.slice B4 q4 d4) (.slice X4 xn4 xc4) (.slice Y4 yn4 yc4) (.int .i64 t4))
    clear HL_5 G_5 R_5 F_5 E_5 HP_5 P_5
    generalize ((((wn.setCell ⟨g, 0, none⟩ (.slice A4 n4 c4)).setCell ⟨g, 1, none⟩ (.slice B4 q4 d4)).setCell ⟨g, 2, none⟩ (.slice X4 xn4 xc4)).setCell ⟨g, 3, none⟩ (.slice Y4 yn4 yc4)).setCell ⟨g, 4, none⟩ (.int .i64 t4) = wx at HL_6 G_6 R_6 F_6 E_6 HP_6 P_6 ⊢
    obtain ⟨r0, r1, r2, r3, r4, r5, r6, r7, r8, r9⟩ := (show _ ∧ _ ∧ _ ∧ _ ∧ _ ∧ _ ∧ _ ∧ _ ∧ _ ∧ _ from ⟨E_6.out.cell 0 rfl, E_6.out.cell 1 rfl, E_6.out.cell 2 rfl, E_6.out.cell 3 rfl, E_6.out.cell 4 rfl, E_6.out.cell 5 rfl, E_6.out.cell 6 rfl, E_6.out.cell 7 rfl, E_6.out.cell 8 rfl, E_6.out.cell 9 rfl⟩)
    obtain ⟨z0, z1⟩ := (show _ ∧ _ from ⟨P_6.out.cell 0 rfl, P_6.out.cell 1 rfl⟩)
    by_cases h_0 : ew = 0
    · have j0 := eqT h_0
      by_cases h_1 : is = false
      · subst h_1
        by_cases h_2 : m4 ≤ k
        · have j1 := decide_eq_true (show (m4 : Int) ≤ (k : Int) by omega)
          have j1' := decide_eq_true h_2
          by_cases h_3 : E9 = 10
          · have j2 := neF h_3
            clear MI3
            go_wp2
            go_roundw
            · exact ⟨k + 1, ⟨A4, n4, c4, B4, q4, d4, X4, xn4, xc4, Y4, yn4, yc4, t4⟩, ⟨T9, S9, K9⟩, false, ⟨qk, qo, qa', qb', qm, ql, qu⟩, e0, i0, by omega, by first | rfl | (congr 1; omega), rfl, G_6.out, R_6.out, F_6.out, HP_6.out, GX2.out, MI2.out, HL_6.out⟩
            · simp [intOf]; omega
          · have j2 := neT h_3
            by_cases h_4 : E9 = 5
            · have j3 := neF h_4
              clear MI3
              go_wp2
              go_roundw
              · exact ⟨k + 1, ⟨A4, n4, c4, B4, q4, d4, X4, xn4, xc4, Y4, yn4, yc4, t4⟩, ⟨T9, S9, K9⟩, false, ⟨qk, qo, qa', qb', qm, ql, qu⟩, e0, i0, by omega, by first | rfl | (congr 1; omega), rfl, G_6.out, R_6.out, F_6.out, HP_6.out, GX2.out, MI2.out, HL_6.out⟩
              · simp [intOf]; omega
            · have j3 := neT h_4
              by_cases h_5 : E9 = 7
              · have j4 := neF h_5
                clear MI3
                go_wp2
                go_roundw
                · exact ⟨k + 1, ⟨A4, n4, c4, B4, q4, d4, X4, xn4, xc4, Y4, yn4, yc4, t4⟩, ⟨T9, S9, K9⟩, false, ⟨qk, qo, qa', qb', qm, ql, qu⟩, e0, i0, by omega, by first | rfl | (congr 1; omega), rfl, G_6.out, R_6.out, F_6.out, HP_6.out, GX2.out, MI2.out, HL_6.out⟩
                · simp [intOf]; omega
              · have j4 := neT h_5
                have MI4 := Lib.hid (MI3.out h_0 h_3 h_4 h_5)
                go_upto_region 14 with fail
                clear r0 r1 r2 r3 r4 r5 r6 r7 r8 r9 z0 z1
                have hxl : ge < wx.heap.size ∧ gu + 1 < wx.heap.size ∧ g + 1 + 1 < wx.heap.size := ⟨E_6.out.lt, P_6.out.lt, F_6.out.lt⟩
                refine wp_region_held_drew (S := fun w' => On (fun b => b = ge ∨ b = gu + 1) wx w') (by kernel_rfl) (On.refl _ wx).drew (fun hHeld => ?_)
                refine tk 0 68 (v := ?_) ?_ ?_
                rotate_left
                · intro w' hSw
                  go_simp
                  (try with_reducible rfl)
                (try simp only [Act.put, sA, sB, sC])
                refine tk 1 69 (v := ?_) ?_ ?_
                rotate_left
                · intro w' hSw
                  have hSw' := hSw
                  (try dsimp only at hSw')
                  obtain ⟨r0, r1, r2, r3, r4, r5, r6, r7, r8, r9⟩ := (show _ ∧ _ ∧ _ ∧ _ ∧ _ ∧ _ ∧ _ ∧ _ ∧ _ ∧ _ from ⟨(E_6.out.on hSw' (.inl rfl)).cell 0 rfl, (E_6.out.on hSw' (.inl rfl)).cell 1 rfl, (E_6.out.on hSw' (.inl rfl)).cell 2 rfl, (E_6.out.on hSw' (.inl rfl)).cell 3 rfl, (E_6.out.on hSw' (.inl rfl)).cell 4 rfl, (E_6.out.on hSw' (.inl rfl)).cell 5 rfl, (E_6.out.on hSw' (.inl rfl)).cell 6 rfl, (E_6.out.on hSw' (.inl rfl)).cell 7 rfl, (E_6.out.on hSw' (.inl rfl)).cell 8 rfl, (E_6.out.on hSw' (.inl rfl)).cell 9 rfl⟩)
                  go_simp
                  (try with_reducible rfl)
                (try simp only [Act.put, sA, sB, sC])
                refine tk 2 70 (v := ?_) ?_ ?_
                rotate_left
                · intro w' hSw
                  have hSw' := hSw
                  (try dsimp only at hSw')
                  obtain ⟨z0, z1⟩ := (show _ ∧ _ from ⟨(P_6.out.on hSw' (.inr rfl)).cell 0 rfl, (P_6.out.on hSw' (.inr rfl)).cell 1 rfl⟩)
                  go_simp
                  (try with_reducible rfl)
                (try simp only [Act.put, sA, sB, sC])
                have hbd : Below wx.heap.size wx wx.drew := (Below.refl _ _).drew
                have HL_7 := Lib.hid (HL_6.out.trans (hbd.mono HL_6.out.size))
                have G_7 := Lib.hid (G_6.out.later hbd)
                have R_7 := Lib.hid (R_6.out.later hbd)
                have F_7 := Lib.hid (F_6.out.later hbd)
                have E_7 := Lib.hid (E_6.out.later hbd)
                have HP_7 := Lib.hid (HP_6.out.below hbd)
                have P_7 := Lib.hid (P_6.out.later hbd)
                clear HL_6 G_6 R_6 F_6 E_6 HP_6 P_6
                clear hbd
                generalize wx.drew = wy at hHeld HL_7 G_7 R_7 F_7 E_7 HP_7 P_7 ⊢
                obtain ⟨r0, r1, r2, r3, r4, r5, r6⟩ := (show _ ∧ _ ∧ _ ∧ _ ∧ _ ∧ _ ∧ _ from ⟨R_7.out.cell 0 rfl, R_7.out.cell 1 rfl, R_7.out.cell 2 rfl, R_7.out.cell 3 rfl, R_7.out.cell 4 rfl, R_7.out.cell 5 rfl, R_7.out.cell 6 rfl⟩)
                obtain ⟨f0, f1, f2, f3, f4, f5, f6⟩ := (show _ ∧ _ ∧ _ ∧ _ ∧ _ ∧ _ ∧ _ from ⟨R_7.out.loose 0, R_7.out.loose 1, R_7.out.loose 2, R_7.out.loose 3, R_7.out.loose 4, R_7.out.loose 5, R_7.out.loose 6⟩)
                refine wpAnyH_ready (rs := [3]) (by kernel_rfl) (by simp) ?_
                refine AllReadyH.cons (i := 3) rfl (fun K0 hK => ?_) AllReadyH.nil
                go_simp
                refine hK.out _ (((((((wy.setCell ⟨g + 1, 0, none⟩ (.int .i64 rk)).setCell ⟨g + 1, 1, none⟩ (.int .i64 ro)).setCell ⟨g + 1, 2, none⟩ (.int .i64 ra)).setCell ⟨g + 1, 3, none⟩ (.int .i64 rb)).setCell ⟨g + 1, 4, none⟩ (.int .i64 rm)).setCell ⟨g + 1, 5, none⟩ (.int .i64 rl)).setCell ⟨g + 1, 6, none⟩ (.int .i64 ru)) (rq7_on hHeld (fun e => by rcases e with e | e <;> omega) (.int .i64 rk) (.int .i64 ro) (.int .i64 ra) (.int .i64 rb) (.int .i64 rm) (.int .i64 rl) (.int .i64 ru)) (fun hHeld => ?_)
                clear hK K0
                (try simp only [Act.put, sA, sB, sC])
                clear r0 r1 r2 r3 r4 r5 r6 f0 f1 f2 f3 f4 f5 f6
                have xHL := Lib.hid (rq7_below HL_7.out (show w.heap.size ≤ g + 1 by omega) (.int .i64 rk) (.int .i64 ro) (.int .i64 ra) (.int .i64 rb) (.int .i64 rm) (.int .i64 rl) (.int .i64 ru))
                have xG := Lib.hid (rq7_other G_7.out (show g ≠ g + 1 by omega) (.int .i64 rk) (.int .i64 ro) (.int .i64 ra) (.int .i64 rb) (.int .i64 rm) (.int .i64 rl) (.int .i64 ru))
                have xR := Lib.hid (rq7_put R_7.out rfl (.int .i64 rk) (.int .i64 ro) (.int .i64 ra) (.int .i64 rb) (.int .i64 rm) (.int .i64 rl) (.int .i64 ru))
                have xF := Lib.hid (rq7_other F_7.out (show g + 1 + 1 ≠ g + 1 by omega) (.int .i64 rk) (.int .i64 ro) (.int .i64 ra) (.int .i64 rb) (.int .i64 rm) (.int .i64 rl) (.int .i64 ru))
                have xHP := Lib.hid (HP_7.out.rq7 hs4 R_7.out (Nat.le_refl 7) (.int .i64 rk) (.int .i64 ro) (.int .i64 ra) (.int .i64 rb) (.int .i64 rm) (.int .i64 rl) (.int .i64 ru))
                clear HL_7 G_7 R_7 F_7 E_7 HP_7 P_7
                generalize ((((((wy.setCell ⟨g + 1, 0, none⟩ (.int .i64 rk)).setCell ⟨g + 1, 1, none⟩ (.int .i64 ro)).setCell ⟨g + 1, 2, none⟩ (.int .i64 ra)).setCell ⟨g + 1, 3, none⟩ (.int .i64 rb)).setCell ⟨g + 1, 4, none⟩ (.int .i64 rm)).setCell ⟨g + 1, 5, none⟩ (.int .i64 rl)).setCell ⟨g + 1, 6, none⟩ (.int .i64 ru) = wz at hHeld xHL xG xR xF xHP ⊢
                obtain ⟨z0, z1⟩ := (show _ ∧ _ from ⟨xF.out.cell 0 rfl, xF.out.cell 1 rfl⟩)
                obtain ⟨f0, f1⟩ := (show _ ∧ _ from ⟨xF.out.loose 0, xF.out.loose 1⟩)
                refine wpAnyH_ready (rs := [4]) (by kernel_rfl) (by simp) ?_
                refine AllReadyH.cons (i := 4) rfl (fun K0 hK => ?_) AllReadyH.nil
                go_simp
                refine hK.out _ ((wz.setCell ⟨g + 1 + 1, 0, none⟩ (.int .i64 E9)).setCell ⟨g + 1 + 1, 1, none⟩ (.int .i64 I9)) (rp_on hHeld (fun e => by rcases e with e | e <;> omega) (.int .i64 E9) (.int .i64 I9)) (fun hHeld => ?_)
                clear hK K0
                (try simp only [Act.put, sA, sB, sC])
                clear z0 z1 f0 f1
                refine tk 5 10 (v := ?_) ?_ ?_
                rotate_left
                · intro w' hSw
                  go_simp
                  (try with_reducible rfl)
                (try simp only [Act.put, sA, sB, sC])
                refine wpAnyH_done (by kernel_rfl) ?_ _
                clear hHeld
                have yHL := rp_below xHL.out (show w.heap.size ≤ g + 1 + 1 by omega) (.int .i64 E9) (.int .i64 I9)
                have yG := rp_other xG.out (show g + 1 + 1 ≠ g by omega) (.int .i64 E9) (.int .i64 I9)
                have yR := rp_other xR.out (show g + 1 + 1 ≠ g + 1 by omega) (.int .i64 E9) (.int .i64 I9)
                have yF := rp_put xF.out rfl (.int .i64 E9) (.int .i64 I9)
                have yV := sk_rp xHP.out xF.out (.int .i64 E9) (.int .i64 I9)
                go_wp2
                go_roundw
                · exact ⟨k + 1, ⟨A4, n4, c4, B4, q4, d4, X4, xn4, xc4, Y4, yn4, yc4, t4⟩, ⟨T9, S9, K9⟩, true, ⟨rk, ro, ra, rb, rm, rl, ru⟩, E9, I9, by omega, by first | rfl | (congr 1; omega), rfl, yG, yR, yF, yV, GX2.out, MI4.out, yHL⟩
                · simp [intOf]; omega
        · have j1 := decide_eq_false (show ¬ (m4 : Int) ≤ (k : Int) by omega)
          have j1' := decide_eq_false h_2
          clear MI3
          go_wp2
          go_roundw
          · exact ⟨k + 1, ⟨A4, n4, c4, B4, q4, d4, X4, xn4, xc4, Y4, yn4, yc4, t4⟩, ⟨T9, S9, K9⟩, false, ⟨qk, qo, qa', qb', qm, ql, qu⟩, e0, i0, by omega, by first | rfl | (congr 1; omega), rfl, G_6.out, R_6.out, F_6.out, HP_6.out, GX2.out, MI2.out, HL_6.out⟩
          · simp [intOf]; omega
      · obtain rfl : is = true := by cases is <;> simp_all
        clear MI3
        go_wp2
        go_roundw
        · exact ⟨k + 1, ⟨A4, n4, c4, B4, q4, d4, X4, xn4, xc4, Y4, yn4, yc4, t4⟩, ⟨T9, S9, K9⟩, true, ⟨qk, qo, qa', qb', qm, ql, qu⟩, e0, i0, by omega, by first | rfl | (congr 1; omega), rfl, G_6.out, R_6.out, F_6.out, HP_6.out, GX2.out, MI2.out, HL_6.out⟩
        · simp [intOf]; omega
    · have j0 := eqF h_0
      clear MI3
      go_wp2
      go_roundw
      · exact ⟨k + 1, ⟨A4, n4, c4, B4, q4, d4, X4, xn4, xc4, Y4, yn4, yc4, t4⟩, ⟨T9, S9, K9⟩, is, ⟨qk, qo, qa', qb', qm, ql, qu⟩, e0, i0, by omega, by first | rfl | (congr 1; omega), rfl, G_6.out, R_6.out, F_6.out, HP_6.out, GX2.out, MI2.out, HL_6.out⟩
      · simp [intOf]; omega
  · obtain rfl : k = l1 := by omega
    cases is with
    | false =>
      go_wp2
      go_ret
      exact ⟨rfl, HL_0.out⟩
    | true =>
      obtain ⟨hmy, hin⟩ := MI.out rfl
      obtain ⟨T, sl, kl⟩ := X
      dsimp only at HV_0 hin
      have hask := GX.out.ask hin
      have hkn := sub_known (X := ⟨T, sl, kl⟩) hmy hask
      have HD1 := Lib.hid (fun W (h1 : SkAt W ⟨A3, n3, c3, B3, q3, d3, X3, xn3, xc3, Y3, yn3, yc3, t3⟩ T sl kl) (h2 : Below w.heap.size w W) => edo_full ⟨A3, n3, c3, B3, q3, d3, X3, xn3, xc3, Y3, yn3, yc3, t3⟩ T sl kl ⟨0, ⟨qk, qo, qa', qb', qm, ql, qu⟩, 0, false⟩ W h1 GX.out.fits (by have := GX.out.keys; dsimp only at this; omega) (HH.out.below h2) (fun _ => GX.out.tick_))
      rw [egO_sub rfl, hkn] at HD1
      unfold EgB Sv.val Sv.cells Ev.cells at HD1
      dsimp only at HD1
      have HSA := Lib.hid (fun W V5 V3 (hv : SkAt W V5 T sl kl) (hv' : SkAt W V3 T sl kl) => esame_yes V5 V3 T sl kl W hv hv' GX.out.fits.n GX.out.fits.q GX.out.fits.kl GX.out.fits.sl)
      unfold BoolRes Sv.val Sv.cells at HSA
      clear hmy hin hask hkn MI
      have D1 := Lib.hid (HD1.out wr HV_0.out HL_0.out)
      obtain ⟨x0, x1, x2, x3, x4⟩ := (show _ ∧ _ ∧ _ ∧ _ ∧ _ from ⟨G_0.out.cell 0 rfl, G_0.out.cell 1 rfl, G_0.out.cell 2 rfl, G_0.out.cell 3 rfl, G_0.out.cell 4 rfl⟩)
      obtain ⟨r0, r1, r2, r3, r4, r5, r6⟩ := (show _ ∧ _ ∧ _ ∧ _ ∧ _ ∧ _ ∧ _ from ⟨R_0.out.cell 0 rfl, R_0.out.cell 1 rfl, R_0.out.cell 2 rfl, R_0.out.cell 3 rfl, R_0.out.cell 4 rfl, R_0.out.cell 5 rfl, R_0.out.cell 6 rfl⟩)
      go_upto_region 19 with (first
        | (go_at_call 13; refine D1.out.mono ?_; rintro _ we ⟨V, rfl, hv, hb, hnw⟩
           obtain ⟨A4, n4, c4, B4, q4, d4, X4, xn4, xc4, Y4, yn4, yc4, t4⟩ := V
           dsimp only at hv ⊢
           have HVa := Lib.hid hv
           have HXe := Lib.hid hb
           clear hv hb hnw x0 x1 x2 x3 x4 r0 r1 r2 r3 r4 r5 r6))
      clear R_0
      have HL_1 := Lib.hid (HL_0.out.trans (HXe.out.mono HL_0.out.size))
      have HV_1 := Lib.hid (HV_0.out.below HXe.out)
      have G_1 := Lib.hid (G_0.out.later HXe.out)
      have F_1 := Lib.hid (F_0.out.later HXe.out)
      clear HL_0 HV_0 G_0 F_0
      have HP_1 := Lib.hid (HVa.out)
      clear HXe HVa D1 HD1
      have al := (Below.refl we.heap.size we).alloc (Nat.le_refl _) (.cells #[.slice A4 n4 c4, .slice B4 q4 d4, .slice X4 xn4 xc4, .slice Y4 yn4 yc4, .int .i64 t4] 35)
      replace al := al.alloc (by simp; try omega) (.cells #[.int .i64 e0, .int .i64 i0] 46)
      have nb0 := (Blk.new we 35 #[.slice A4 n4 c4, .slice B4 q4 d4, .slice X4 xn4 xc4, .slice Y4 yn4 yc4, .int .i64 t4]).more (.cells #[.int .i64 e0, .int .i64 i0] 46)
      have nb1 := Blk.new (we.alloc (.cells #[.slice A4 n4 c4, .slice B4 q4 d4, .slice X4 xn4 xc4, .slice Y4 yn4 yc4, .int .i64 t4] 35)) 46 #[.int .i64 e0, .int .i64 i0]
      rw [alloc_size] at nb1
      have HL_2 := Lib.hid (HL_1.out.trans (al.mono HL_1.out.size))
      have HV_2 := Lib.hid (HV_1.out.below al)
      have G_2 := Lib.hid (G_1.out.later al)
      have F_2 := Lib.hid (F_1.out.later al)
      have HP_2 := Lib.hid (HP_1.out.below al)
      clear al HL_1 HV_1 G_1 F_1 HP_1
      have U_2 := Lib.hid (nb0)
      have P_2 := Lib.hid (nb1)
      clear nb0 nb1
      generalize (we.alloc (.cells #[.slice A4 n4 c4, .slice B4 q4 d4, .slice X4 xn4 xc4, .slice Y4 yn4 yc4, .int .i64 t4] 35)).alloc (.cells #[.int .i64 e0, .int .i64 i0] 46) = wn at HL_2 HV_2 G_2 F_2 HP_2 U_2 P_2 ⊢
      have S1 := Lib.hid (HSA.out wn ⟨A3, n3, c3, B3, q3, d3, X3, xn3, xc3, Y3, yn3, yc3, t3⟩ ⟨A4, n4, c4, B4, q4, d4, X4, xn4, xc4, Y4, yn4, yc4, t4⟩ HV_2.out HP_2.out)
      dsimp only at S1
      obtain ⟨x0, x1, x2, x3, x4⟩ := (show _ ∧ _ ∧ _ ∧ _ ∧ _ from ⟨G_2.out.cell 0 rfl, G_2.out.cell 1 rfl, G_2.out.cell 2 rfl, G_2.out.cell 3 rfl, G_2.out.cell 4 rfl⟩)
      obtain ⟨y0, y1, y2, y3, y4⟩ := (show _ ∧ _ ∧ _ ∧ _ ∧ _ from ⟨U_2.out.cell 0 rfl, U_2.out.cell 1 rfl, U_2.out.cell 2 rfl, U_2.out.cell 3 rfl, U_2.out.cell 4 rfl⟩)
      obtain ⟨z0, z1⟩ := (show _ ∧ _ from ⟨P_2.out.cell 0 rfl, P_2.out.cell 1 rfl⟩)
      obtain ⟨k0, k1⟩ := (show _ ∧ _ from ⟨F_2.out.cell 0 rfl, F_2.out.cell 1 rfl⟩)
      go_wp2_with (first | (go_at_call 22; refine S1.out.mono ?_; rintro _ wk ⟨rfl, hbk⟩))
      go_ret
      exact ⟨rfl, HL_2.out.trans (hbk.mono HL_2.out.size)⟩
theorem engineAgain_walk (w : World) (v0 : Value) (w0 : BookAt w v0) (a1 : Option Addr) (len1 cap1 : Nat) (w1 : IsRecs eacts EA.fits w a1 len1 cap1) (a2 : Int) (w2 : (Lit.int .u8 a2).wf = true) (hh : HasErr w) :
  Calls Tryz.prog 5 #[v0, .slice a1 len1 cap1, .int .u8 a2] w fun e w' => e = .returned (.bool true) ∧ Below w.heap.size w w' := by
 obtain ⟨zk, kl, kr, kf, klc, kmx, _⟩ := recs_list w1
 obtain ⟨t, rfl, ht⟩ := u8_nat w2
 exact engineAgain_core w v0 w0 a1 len1 cap1 zk kl kr kf (by simp only [maxLen] at kmx; omega) t ht hh
end Go.Proofs.YteifgmdaggiaaaaGreatDoor
