/-
  The law OpsTick: payments whose time is over are closed by a tick, and what they held is free.
-/
import Derived.Test.YtjnmppdohglcaaaGreatDoorOpsTickMem
import Derived.Test.YtjnmppdohglcaaaGreatDoorDueFnBy
import Derived.Test.YtjnmppdohglcaaaGreatDoorGrA
import Derived.LoopTactic
import Derived.IntWalk
import Derived.WalkSpells
namespace Go.Proofs.YtjnmppdohglcaaaGreatDoor
open Go Go.RowKit
set_option linter.unusedVariables false

set_option maxRecDepth 100000 in
set_option maxHeartbeats 1000000 in
theorem opsTick_core (w : World) (b : Value) (hb : BookAt w b) (a1 : Option Addr) (l1 c1 : Nat) (zs : List Pd) (hzl : zs.length = l1) (hr : RdS paids w a1 zs) (hfit : ∀ (j : Nat) z, zs[j]? = some z → z.fits) (hl : l1 ≤ 1900000) (t : Nat) (ht : t < 256) (m : Nat) (hm : m < 256) (hh : HasErr w) :
    Calls Tryz.prog 4 #[b, .slice a1 l1 c1, .int .u8 (t : Int), .int .u8 (m : Int)] w fun e w' => e = .returned (.bool true) ∧ Below w.heap.size w w' := by
  have HST := Lib.hid (fun W (hW : Below w.heap.size w W) => state_any hb a1 l1 c1 zs hzl t ht hl W hW (hr.below hW) hfit)
  have HAW := Lib.hid (fun W (hW : Below w.heap.size w W) => oawake_ok W (hh.below hW))
  have HTK := Lib.hid sv_tick
  obtain ⟨CA, HA, LA, cl, cc, hl', hc, ll, lc, cs, hs, ls, rfl, h1, h2, h3, h4, h5, h6, h7, h8, h9⟩ := hb.form
  obtain ⟨K, hK⟩ : ∃ K : Nat, m % 25 = K := ⟨_, rfl⟩
  have hK1 : (m : Int).tmod 25 = (K : Int) := by rw [Int.tmod_eq_emod_of_nonneg (by omega)]; omega
  have hK25 : K < 25 := by omega
  obtain ⟨T, hT⟩ : ∃ T : Nat, t % 12 = T := ⟨_, rfl⟩
  have hT1 : (t : Int) % 12 = (T : Int) := by omega
  have hT12 : T < 12 := by omega
  rw [hT1] at HST
  unfold Sv.val Sv.cells at HST
  clear h1 h2 h3 h4 h5 h6 h7 h8 h9 hb hzl hr hfit ht hm hh hK hT hT1
  go_enter Tryz.func4, Tryz.ntmps4
  go_wp2_with fail
  refine (HAW.out _ ((Below.refl w.heap.size w).alloc (Nat.le_refl _) (.cells #[.slice CA cl cc, .slice HA hl' hc, .slice LA ll lc] 25))).mono ?_
  rintro _ wa ⟨rfl, hba⟩
  have HBk := Lib.hid ((Blk.new w 25 #[.slice CA cl cc, .slice HA hl' hc, .slice LA ll lc]).later hba)
  have HWA := Lib.hid (((Below.refl w.heap.size w).alloc (Nat.le_refl _) (.cells #[.slice CA cl cc, .slice HA hl' hc, .slice LA ll lc] 25)).trans (hba.mono (by simp)))
  clear hba HAW
  obtain ⟨b0, b1, b2⟩ := (show _ ∧ _ ∧ _ from ⟨HBk.out.cell 0 rfl, HBk.out.cell 1 rfl, HBk.out.cell 2 rfl⟩)
  go_wp2_with fail
  refine (HST.out _ HWA.out).mono ?_
  rintro _ w1 ⟨V, s0, rfl, hv, hM, hb1⟩
  have B1 := Lib.hid (HWA.out.trans (hb1.mono HWA.out.size))
  have TK0 : Hid (Tk l1 ((T : Int) + ((0 : Nat) : Int)) s0) := Lib.hid ⟨hM.ok, hM.len, hM.pays, by rw [hM.now]; simp⟩
  obtain ⟨A1, n1, c1, P1, q1, d1, X1, x1, y1, Y1, u1, z1, t1⟩ := V
  dsimp only at hv ⊢
  have V1 := Lib.hid hv
  clear hv hb1 hM HST HWA HBk b0 b1 b2
  go_upto_region 4 with fail
  have al := (Below.refl w1.heap.size w1).alloc (Nat.le_refl _) (.cells #[.slice A1 n1 c1, .slice P1 q1 d1, .slice X1 x1 y1, .slice Y1 u1 z1, .int .i64 t1] 34)
  have G1 := Lib.hid (Blk.new w1 34 #[.slice A1 n1 c1, .slice P1 q1 d1, .slice X1 x1 y1, .slice Y1 u1 z1, .int .i64 t1])
  have W1 := Lib.hid (V1.out.below al)
  have B2 := Lib.hid (B1.out.trans (al.mono B1.out.size))
  have hg : w.heap.size ≤ w1.heap.size := B1.out.size
  clear al V1 B1
  generalize w1.alloc (.cells #[.slice A1 n1 c1, .slice P1 q1 d1, .slice X1 x1 y1, .slice Y1 u1 z1, .int .i64 t1] 34) = w2 at G1 W1 B2 ⊢
  generalize w1.heap.size = g at G1 hg ⊢
  go_wp2
  go_loopw [10] (fun i wr => ∃ (k : Nat) (V : Sv) (s : St), k ≤ K ∧ i = .int .i64 (k : Int) ∧ Blk wr g 34 V.cells ∧ SvAt wr V s ∧ Tk l1 ((T : Int) + (k : Int)) s ∧ Below w.heap.size w wr) (fun i _ => K - (intOf i).toNat)
  case atStart => exact ⟨0, ⟨A1, n1, c1, P1, q1, d1, X1, x1, y1, Y1, u1, z1, t1⟩, s0, by omega, rfl, G1.out, W1.out, TK0.out, B2.out⟩
  case round =>
    obtain ⟨k, V, s, hk, rfl, hG, hV, hTk, hB⟩ := hrel
    obtain ⟨A3, n3, c3, P3, q3, d3, X3, x3, y3, Y3, u3, z3, t3⟩ := V
    unfold Sv.cells at hG
    dsimp only at hG
    have e1 := hV.n
    have e2 := hV.q
    have e3 := hV.t
    have e4 := hTk.len
    have e5 := hTk.now
    have hq3 := hTk.pays
    dsimp only at e1 e2 e3
    obtain rfl : n3 = 15 := by omega
    obtain rfl : t3 = (T : Int) + (k : Int) := by omega
    rw [e2] at hq3
    have E1 := Lib.hid e1
    have E2 := Lib.hid e2
    have E3 := Lib.hid e3
    have G3 := Lib.hid hG
    have V3 := Lib.hid hV
    have B3 := Lib.hid hB
    have TK := Lib.hid hTk
    have hgl : g < wr.heap.size := hG.lt
    clear e1 e2 e3 e4 e5
    obtain ⟨a0, a1, a2, a3, a4⟩ := (show _ ∧ _ ∧ _ ∧ _ ∧ _ from ⟨G3.out.cell 0 rfl, G3.out.cell 1 rfl, G3.out.cell 2 rfl, G3.out.cell 3 rfl, G3.out.cell 4 rfl⟩)
    clear hG hV hB hTk
    by_cases hlt : k < K
    · obtain ⟨ad, rfl⟩ : ∃ ad, A3 = some ad := by
        obtain ⟨ad, h, _⟩ := V3.out.st.accs.at_ (j := 0) (List.getElem?_eq_getElem (by rw [E1.out]; omega))
        exact ⟨ad, h⟩
      go_upto_region 9 with fail
      obtain ⟨wo, rfl⟩ : ∃ wo, wo = wr := ⟨_, rfl⟩
      have HLOW := Lib.hid (fun W (h : Below wo.heap.size wo W) => And.intro (V3.out.below h) (G3.out.later h))
      have W2 := Lib.hid (Blk.new wo 34 #[.slice (some ad) 15 c3, .slice P3 q3 d3, .slice X3 x3 y3, .slice Y3 u3 z3, .int .i64 ((T : Int) + (k : Int) + 1)])
      have BW2 := Lib.hid ((Below.refl wo.heap.size wo).alloc (Nat.le_refl _) (.cells #[.slice (some ad) 15 c3, .slice P3 q3 d3, .slice X3 x3 y3, .slice Y3 u3 z3, .int .i64 ((T : Int) + (k : Int) + 1)] 34))
      clear a0 a1 a2 a3 a4 G3
      generalize wo.alloc (.cells #[.slice (some ad) 15 c3, .slice P3 q3 d3, .slice X3 x3 y3, .slice Y3 u3 z3, .int .i64 ((T : Int) + (k : Int) + 1)] 34) = w2 at W2 BW2 ⊢
      generalize hgw : wo.heap.size = gw at HLOW W2 BW2 hgl ⊢
      have HGW := Lib.hid hgw
      clear hgw
      obtain ⟨a0, a1⟩ := (show _ ∧ _ from ⟨(HLOW.out _ BW2.out).2.cell 0 rfl, (HLOW.out _ BW2.out).2.cell 1 rfl⟩)
      go_upto_region 11 with (at_builtin; first
        | (refine wpList_append_accs _ rfl (.const (.slice none 0 0)) (.tmp 33) rfl w2.heap.size (.slice none 0 0) [] s.acs rfl OwnA.nil ad 15 c3 rfl E1.out (HLOW.out _ BW2.out).1.st.accs (by simp) (by omega) (Nat.le_refl _) ?_
           intro v4 w4 ho4 hg4
           rw [List.nil_append] at ho4
           obtain ⟨A4, c4, hv4, r1, r2, r3, r4⟩ := ho4.form
           rw [E1.out] at hv4
           subst hv4
           clear r1 r2 r3 r4 a0 a1
           have O4 := Lib.hid ho4
           have H4 := Lib.hid hg4
           have B4 := Lib.hid ((Below.refl w2.heap.size w2).grown hg4 (Nat.le_refl _) (fun k e => by cases e))
           have x0 := (W2.out.later B4.out).cell 0 rfl
           have x1 := (W2.out.later B4.out).loose 0
           have L5 := Lib.hid ((BW2.out.trans (B4.out.mono (Nat.le_of_lt W2.out.lt))).setCell (p := ⟨gw, 0, none⟩) (Nat.le_refl _) (.slice A4 15 c4))
           have a1 := (HLOW.out _ L5.out).2.cell 1 rfl
           clear ho4 hg4)
        | (refine wpList_append_new pays 30 Tryz.underlying30 info_pay rfl _ rfl (.const (.slice none 0 0)) (.tmp 37) rfl _ s.pys rfl P3 q3 d3 rfl E2.out (HLOW.out _ L5.out).1.st.pays (by omega) (by omega) (Nat.le_refl _) ?_
           intro v6 w6 ho6 hg6 hge6
           obtain ⟨P6, d6, hv6, r1, r2, r3, r4⟩ := ho6.form
           rw [E2.out] at hv6
           subst hv6
           clear r1 r2 r3 r4
           have O6 := Lib.hid ho6
           have H6 := Lib.hid hg6
           have B6 := Lib.hid ((Below.refl (w4.setCell ⟨gw, 0, none⟩ (.slice A4 15 c4)).heap.size (w4.setCell ⟨gw, 0, none⟩ (.slice A4 15 c4))).grown hg6 (Nat.le_refl _) (fun k e => by cases e))
           have y0 := (((W2.out.later B4.out).set 0 (.slice A4 15 c4)).later B6.out).cell 1 rfl
           have y1 := (((W2.out.later B4.out).set 0 (.slice A4 15 c4)).later B6.out).loose 1
           clear ho6 hg6 hge6 a1))
      have DM := Lib.hid (ds_made HGW.out BW2.out W2.out O4.out H4.out O6.out H6.out)
      have L7 := Lib.hid DM.out.2
      have D7 : Hid (Ds (fun b' => b' < gw) (w6.setCell ⟨gw, 1, none⟩ (.slice P6 q3 d6)) gw (.slice A4 15 c4) (.slice P6 q3 d6) (.slice X3 x3 y3) (.slice Y3 u3 z3) (wantS s 0)) := Lib.hid (by rw [want_zero TK.out.ok, E3.out]; exact DM.out.1)
      clear DM O4 H4 O6 H6 B4 B6 W2 BW2 L5 x0 x1 y0 y1
      generalize w6.setCell ⟨gw, 1, none⟩ (.slice P6 q3 d6) = w7 at D7 L7 ⊢
      have a1 := (HLOW.out _ L7.out).2.cell 1 rfl
      go_wp2
      go_loopw [43] (fun i wr => ∃ (j : Nat) (va vp : Value), j ≤ q3 ∧ i = .int .i64 (j : Int) ∧ Ds (fun b' => b' < gw) wr gw va vp (.slice X3 x3 y3) (.slice Y3 u3 z3) (wantS s j) ∧ Below gw wo wr) (fun i _ => q3 - (intOf i).toNat)
      case atStart => exact ⟨0, _, _, by omega, rfl, D7.out, L7.out⟩
      case round =>
        obtain ⟨j, va, vp, hj, rfl, hD, hL⟩ := hrel
        have D8 := Lib.hid hD
        have L8 := Lib.hid hL
        clear hD hL a1
        by_cases hlj : j < q3
        · obtain ⟨p, hp⟩ : ∃ p, s.pys[j]? = some p := ⟨_, List.getElem?_eq_getElem (by rw [E2.out]; exact hlj)⟩
          obtain ⟨pa, hpa, hat⟩ := (HLOW.out _ L8.out).1.st.pays.at_ hp
          dsimp only at hpa
          subst hpa
          obtain ⟨p0, p1, p2, p3, p4, p5, p6, p7⟩ := pay_cells hat
          have HP := Lib.hid hp
          have HWN := Lib.hid (fun h => want_next TK.out.ok hp h)
          have HWS := Lib.hid (fun h => want_stay hp h)
          rw [E3.out] at HWN HWS
          obtain ⟨pf, pd, pau, pcp, prf, pcg, ptl, pst⟩ := p
          dsimp only at p0 p1 p2 p3 p4 p5 p6 p7 HWN HWS
          clear hp hat
          go_upto_region 14 with fail
          have hgp : gw < wr.heap.size := D8.out.blk.lt
          have D9 := Lib.hid (D8.out.alloc (.cells #[.int .i64 pf, .int .i64 pd, .int .i64 pau, .int .i64 pcp, .int .i64 prf, .int .i64 pcg, .int .i64 ptl, .int .i64 pst] 55))
          have L9 := Lib.hid (L8.out.alloc (by have := L8.out.size; have := HGW.out; omega) (.cells #[.int .i64 pf, .int .i64 pd, .int .i64 pau, .int .i64 pcp, .int .i64 prf, .int .i64 pcg, .int .i64 ptl, .int .i64 pst] 55))
          have Q9 := Lib.hid (Blk.new wr 55 #[.int .i64 pf, .int .i64 pd, .int .i64 pau, .int .i64 pcp, .int .i64 prf, .int .i64 pcg, .int .i64 ptl, .int .i64 pst])
          have HVL := Lib.hid D8.out.plt
          clear p0 p1 p2 p3 p4 p5 p6 p7 D8 L8
          generalize wr.alloc (.cells #[.int .i64 pf, .int .i64 pd, .int .i64 pau, .int .i64 pcp, .int .i64 prf, .int .i64 pcg, .int .i64 ptl, .int .i64 pst] 55) = w9 at D9 L9 Q9 ⊢
          generalize wr.heap.size = gp at Q9 hgp HVL ⊢
          have d4 : w9.cell? ⟨gw, 4, none⟩ = some (.int .i64 ((T : Int) + (k : Int) + 1)) := by
            have h := D9.out.blk.cell 4 rfl
            rw [show (wantS s j).now = (T : Int) + (k : Int) + 1 by show s.now + 1 = _; rw [E3.out]] at h
            exact h
          obtain ⟨p0, p2, p3, p6, p7⟩ := (show _ ∧ _ ∧ _ ∧ _ ∧ _ from ⟨Q9.out.cell 0 rfl, Q9.out.cell 2 rfl, Q9.out.cell 3 rfl, Q9.out.cell 6 rfl, Q9.out.cell 7 rfl⟩)
          by_cases hs0 : pst = 0
          · by_cases hs1 : ptl ≤ (T : Int) + (k : Int) + 1
            · obtain ⟨f, a, hf, hfl, ha, hge, hle, h1, heq⟩ := HWN.out ⟨hs0, hs1⟩
              subst hs0
              have qt := decide_eq_true hs1
              subst hf
              rw [E1.out] at hfl
              have HEQ := Lib.hid heq
              have HA := Lib.hid ha
              have LA := Lib.hid (wantS_len (k := j) E1.out E2.out).1
              have LP := Lib.hid (wantS_len (k := j) E1.out E2.out).2
              have HWP : Hid ((wantS s j).pys[j]? = some ⟨(f : Int), pd, pau, pcp, prf, pcg, ptl, 0⟩) := Lib.hid (closedTo_at HP.out)
              obtain ⟨ga, ca, hva, r1, r2, r3, r4⟩ := D9.out.oa.open_ (by rw [LA.out]; omega)
              rw [LA.out] at hva
              subst hva
              obtain ⟨gv, cv, hvp, r5, r6, r7, r8⟩ := D9.out.op.open_ (by rw [LP.out]; omega)
              rw [LP.out] at hvp
              subst hvp
              have hgv : gv < gp := HVL.out gv rfl
              have k1 : w9.cell? ⟨gw, 1, none⟩ = some (.slice (some ⟨gv, 0, none⟩) q3 cv) := D9.out.blk.cell 1 rfl
              have s7 : w9.cell? ⟨gv, j * 8 + 7, none⟩ = some (.int .i64 0) := D9.out.op.at_ HWP.out 7 (.int .i64 0) rfl
              have f7 := D9.out.op.unfrozen LP.out.symm (j * 8 + 7)
              have SG := Lib.hid (ds_stage (p' := ⟨(f : Int), pd, pau, pcp, prf, pcg, ptl, 1⟩) D9.out LP.out.symm HWP.out rfl (fun k' hk' => hk') L9.out)
              clear hs1 ha heq r1 r2 r3 r4 r5 r6 r7 r8 HWN HWS
              go_upto_region 16 with fail
              have DA := Lib.hid SG.out.1
              have L10 := Lib.hid SG.out.2
              have QA := Lib.hid (Q9.out.setOther (b := gv) (by omega) (j * 8 + 7) (.int .i64 1))
              clear SG k1 s7 f7 p0 p2 p3 p6 p7 d4 D9 L9 Q9
              generalize w9.setCell ⟨gv, j * 8 + 7, none⟩ (.int .i64 1) = w10 at DA L10 QA ⊢
              have k0 : w10.cell? ⟨gw, 0, none⟩ = some (.slice (some ⟨ga, 0, none⟩) 15 ca) := DA.out.blk.cell 0 rfl
              obtain ⟨p0, p2, p3⟩ := (show _ ∧ _ ∧ _ from ⟨QA.out.cell 0 rfl, QA.out.cell 2 rfl, QA.out.cell 3 rfl⟩)
              obtain ⟨s0', s1', s2⟩ := DA.out.oa.at_ HA.out
              have f2 := DA.out.oa.unfrozen LA.out.symm (f * 3 + 2)
              have FR := Lib.hid (ds_free DA.out LA.out.symm HA.out (a.held - (pau - pcp)) (fun k' hk' => hk') L10.out)
              go_region
              go_wp2
              go_roundw
              · exact ⟨j + 1, _, _, by omega, rfl, by rw [HEQ.out, ← E3.out]; exact FR.out.1.drew, FR.out.2.drew⟩
              · simp [intOf]; omega
            · have HNX := Lib.hid (HWS.out (fun h => hs1 h.2))
              have qs := eqT hs0
              have qt := decide_eq_false hs1
              clear hs0 hs1 HWN HWS
              go_wp2
              go_roundw
              · exact ⟨j + 1, va, vp, by omega, rfl, by rw [HNX.out]; exact D9.out, L9.out⟩
              · simp [intOf]; omega
          · have HNX := Lib.hid (HWS.out (fun h => hs0 h.1))
            have qs := eqF hs0
            clear hs0 HWN HWS
            go_wp2
            go_roundw
            · exact ⟨j + 1, va, vp, by omega, rfl, by rw [HNX.out]; exact D9.out, L9.out⟩
            · simp [intOf]; omega
        · have hjq : j = q3 := by omega
          have TS : wantS s j = tickS s := by
            rw [show j = s.pys.length by rw [E2.out]; exact hjq]
            exact want_all (by rw [E3.out]; omega)
          have WN : (wantS s j).now = (T : Int) + (k : Int) + 1 := by show s.now + 1 = _; rw [E3.out]
          have TN := Lib.hid (TK.out.next (by omega))
          obtain ⟨A8, c8, hva, r1, r2, r3, r4⟩ := D8.out.oa.form
          obtain ⟨P8, d8, hvp, r5, r6, r7, r8⟩ := D8.out.op.form
          rw [(wantS_len (k := j) E1.out E2.out).1] at hva
          rw [(wantS_len (k := j) E1.out E2.out).2] at hvp
          subst hva hvp
          have SW : Hid (SvAt wr ⟨A8, 15, c8, P8, q3, d8, X3, x3, y3, Y3, u3, z3, (T : Int) + (k : Int) + 1⟩ (tickS s)) := Lib.hid (by
            have h := D8.out.sv (wantS_len (k := j) E1.out E2.out).1 (wantS_len (k := j) E1.out E2.out).2 (HLOW.out _ L8.out).1.sx (HLOW.out _ L8.out).1.sy
            rw [WN, TS] at h
            exact h)
          have BW : Hid (Blk wr gw 34 #[.slice A8 15 c8, .slice P8 q3 d8, .slice X3 x3 y3, .slice Y3 u3 z3, .int .i64 ((T : Int) + (k : Int) + 1)]) := Lib.hid (by
            have h := D8.out.blk
            rw [WN] at h
            exact h)
          have G9 := Lib.hid (HLOW.out _ L8.out).2
          have B9 := Lib.hid (B3.out.trans (L8.out.mono (by have := B3.out.size; have := HGW.out; omega)))
          have TKC := Lib.hid (HTK.out ⟨some ad, 15, c3, P3, q3, d3, X3, x3, y3, Y3, u3, z3, (T : Int) + (k : Int)⟩ s wr (HLOW.out _ L8.out).1 TK.out.ok)
          unfold Sv.val Sv.cells at TKC
          dsimp only at TKC
          have hggw : g ≠ gw := by omega
          obtain ⟨a0, a1, a2, a3, a4⟩ := (show _ ∧ _ ∧ _ ∧ _ ∧ _ from ⟨G9.out.cell 0 rfl, G9.out.cell 1 rfl, G9.out.cell 2 rfl, G9.out.cell 3 rfl, G9.out.cell 4 rfl⟩)
          clear r1 r2 r3 r4 r5 r6 r7 r8 TS WN D8 L8 HLOW L7 D7
          go_wp2_with fail
          refine TKC.out.mono ?_
          rintro _ w5 ⟨V, rfl, hv, hb5⟩
          obtain ⟨A5, n5, c5, P5, q5, d5, X5, x5, y5, Y5, u5, z5, t5⟩ := V
          have e1 := hv.n
          have e2 := hv.q
          have e3 := hv.t
          dsimp only at e1 e2 e3 ⊢
          rw [TN.out.len] at e1
          rw [TN.out.now] at e3
          subst e1 e3
          have hq5 : q5 ≤ l1 := by rw [← e2]; exact TN.out.pays
          have EQ5 := Lib.hid e2
          have V5 := Lib.hid hv
          have G5 := Lib.hid (G9.out.later hb5)
          have BW5 := Lib.hid (BW.out.later hb5)
          have SW5 := Lib.hid (SW.out.below hb5)
          have B5 := Lib.hid (B9.out.trans (hb5.mono B9.out.size))
          clear e2 hv hb5 TKC G9 BW SW B9 a0 a1 a2 a3 a4
          obtain ⟨a0, a1, a2, a3, a4⟩ := (show _ ∧ _ ∧ _ ∧ _ ∧ _ from ⟨G5.out.cell 0 rfl, G5.out.cell 1 rfl, G5.out.cell 2 rfl, G5.out.cell 3 rfl, G5.out.cell 4 rfl⟩)
          obtain ⟨f0, f1, f2, f3, f4⟩ := (show _ ∧ _ ∧ _ ∧ _ ∧ _ from ⟨G5.out.loose 0, G5.out.loose 1, G5.out.loose 2, G5.out.loose 3, G5.out.loose 4⟩)
          have hg5 : g < w5.heap.size := G5.out.lt
          go_upto_region 19 with fail
          have S6 := sv_put (V0 := ⟨some ad, 15, c3, P3, q3, d3, X3, x3, y3, Y3, u3, z3, (T : Int) + (k : Int)⟩) V5.out G5.out (.slice A5 15 c5) (.slice P5 q5 d5) (.slice X5 x5 y5) (.slice Y5 u5 z5) (.int .i64 ((T : Int) + (k : Int) + 1))
          have T6 := sv_put (V0 := ⟨some ad, 15, c3, P3, q3, d3, X3, x3, y3, Y3, u3, z3, (T : Int) + (k : Int)⟩) SW5.out G5.out (.slice A5 15 c5) (.slice P5 q5 d5) (.slice X5 x5 y5) (.slice Y5 u5 z5) (.int .i64 ((T : Int) + (k : Int) + 1))
          have K6 := st_put G5.out rfl (.slice A5 15 c5) (.slice P5 q5 d5) (.slice X5 x5 y5) (.slice Y5 u5 z5) (.int .i64 ((T : Int) + (k : Int) + 1))
          have O6 := st_other BW5.out hggw (.slice A5 15 c5) (.slice P5 q5 d5) (.slice X5 x5 y5) (.slice Y5 u5 z5) (.int .i64 ((T : Int) + (k : Int) + 1))
          have M6 := st_below B5.out hg (.slice A5 15 c5) (.slice P5 q5 d5) (.slice X5 x5 y5) (.slice Y5 u5 z5) (.int .i64 ((T : Int) + (k : Int) + 1))
          clear a0 a1 a2 a3 a4 f0 f1 f2 f3 f4 V5 G5 BW5 SW5 B5
          generalize ((((w5.setCell ⟨g, 0, none⟩ (.slice A5 15 c5)).setCell ⟨g, 1, none⟩ (.slice P5 q5 d5)).setCell ⟨g, 2, none⟩ (.slice X5 x5 y5)).setCell ⟨g, 3, none⟩ (.slice Y5 u5 z5)).setCell ⟨g, 4, none⟩ (.int .i64 ((T : Int) + (k : Int) + 1)) = w6 at S6 T6 K6 O6 M6 ⊢
          have SMC := Lib.hid (sv_same _ _ (tickS s) w6 S6 T6 (by rw [TN.out.len]; omega) (by rw [EQ5.out]; omega))
          unfold Sv.val Sv.cells at SMC
          dsimp only at SMC
          have S6' := Lib.hid S6
          have K6' := Lib.hid K6
          have M6' := Lib.hid M6
          obtain ⟨a0, a1, a2, a3, a4⟩ := (show _ ∧ _ ∧ _ ∧ _ ∧ _ from ⟨K6.cell 0 rfl, K6.cell 1 rfl, K6.cell 2 rfl, K6.cell 3 rfl, K6.cell 4 rfl⟩)
          obtain ⟨b0, b1, b2, b3, b4⟩ := (show _ ∧ _ ∧ _ ∧ _ ∧ _ from ⟨O6.cell 0 rfl, O6.cell 1 rfl, O6.cell 2 rfl, O6.cell 3 rfl, O6.cell 4 rfl⟩)
          clear S6 T6 K6 O6 M6
          go_wp2_with fail
          refine SMC.out.mono ?_
          rintro _ w7 ⟨rfl, hb7⟩
          have S7 := Lib.hid (S6'.out.below hb7)
          have K7 := Lib.hid (K6'.out.later hb7)
          have M7 := Lib.hid (M6'.out.trans (hb7.mono M6'.out.size))
          clear hb7 a0 a1 a2 a3 a4 b0 b1 b2 b3 b4 S6' K6' M6' SMC
          obtain ⟨a1, a4⟩ := (show _ ∧ _ from ⟨K7.out.cell 1 rfl, K7.out.cell 4 rfl⟩)
          have DUE := Lib.hid (fn_by (w0 := w7) (A := P5) (n := q5) (cap := d5) (ps := (tickS s).pys) ((T : Int) + (k : Int) + 1) S7.out.st.pays EQ5.out (by omega))
          go_wp2_with fail
          refine DUE.out.mono ?_
          rintro _ w8 ⟨v, out, rfl, hd, ho, hb8⟩
          have hz := tick_none (s := s) (by rw [E3.out]; omega) hd
          rw [TN.out.now] at hz
          rw [hz] at ho
          obtain ⟨A9, c9, rfl, r1, r2, r3, r4⟩ := ho.form
          dsimp only [List.length_nil]
          have S8 := Lib.hid (S7.out.below hb8)
          have K8 := Lib.hid (K7.out.later hb8)
          have M8 := Lib.hid (M7.out.trans (hb8.mono M7.out.size))
          clear hd ho hz hb8 r1 r2 r3 r4 a1 a4 S7 K7 M7 DUE
          go_wp2
          go_roundw
          · exact ⟨k + 1, ⟨A5, 15, c5, P5, q5, d5, X5, x5, y5, Y5, u5, z5, (T : Int) + (k : Int) + 1⟩, tickS s, by omega, by first | (congr 1; done) | (congr 1; omega), K8.out, S8.out, by rw [show (T : Int) + ((k + 1 : Nat) : Int) = (T : Int) + (k : Int) + 1 by omega]; exact TN.out, M8.out⟩
          · simp [intOf]; omega
    · have f4 := G3.out.loose 4
      go_upto_region 22 with fail
      have G9 : Hid (Blk (wr.setCell ⟨g, 4, none⟩ (.int .i64 1073741824)) g 34 #[.slice A3 15 c3, .slice P3 q3 d3, .slice X3 x3 y3, .slice Y3 u3 z3, .int .i64 1073741824]) := Lib.hid (G3.out.set 4 (.int .i64 1073741824))
      have V9 := Lib.hid ((V3.out.later 1073741824).setNow (V0 := ⟨A3, 15, c3, P3, q3, d3, X3, x3, y3, Y3, u3, z3, (T : Int) + (k : Int)⟩) G3.out (.int .i64 1073741824))
      have B9 := Lib.hid (B3.out.setCell (p := ⟨g, 4, none⟩) hg (.int .i64 1073741824))
      have OK9 := Lib.hid TK.out.late
      clear a0 a1 a2 a3 a4 f4 V3 G3 B3
      generalize wr.setCell ⟨g, 4, none⟩ (.int .i64 1073741824) = w9 at G9 V9 B9 ⊢
      have TKC := Lib.hid (fun W (h : Below w9.heap.size w9 W) => HTK.out _ _ W (V9.out.below h) OK9.out.1)
      rw [OK9.out.2] at TKC
      unfold Sv.val Sv.cells at TKC
      dsimp only at TKC
      refine wp_region_held_drew (S := fun w' => Below w9.heap.size w9 w') (by kernel_rfl) (Below.refl _ _).drew (fun hHeld => ?_)
      refine take_at 0 95 (v := ?_) rfl rfl (by kernel_rfl) (by kernel_rfl) (by kernel_rfl) (fun _ _ _ h => h) (Or.inl ⟨by rfl, ?_⟩) (by assumption) ?_
      rotate_left
      · intro w' hSw
        have hSw' := hSw
        (try dsimp only at hSw')
        obtain ⟨k0, k1, k2, k3, k4⟩ := (show _ ∧ _ ∧ _ ∧ _ ∧ _ from ⟨(G9.out.later hSw').cell 0 rfl, (G9.out.later hSw').cell 1 rfl, (G9.out.later hSw').cell 2 rfl, (G9.out.later hSw').cell 3 rfl, (G9.out.later hSw').cell 4 rfl⟩)
        go_simp
        (try with_reducible rfl)
      (try simp only [Act.put]); (try simp only [List.setIfInBounds_toArray]); (try simp only [List.set_cons_succ]); (try simp only [List.set_cons_zero])
      refine take_at 2 97 (v := ?_) rfl rfl (by kernel_rfl) (by kernel_rfl) (by kernel_rfl) (fun _ _ _ h => h) (Or.inl ⟨by rfl, ?_⟩) (by assumption) ?_
      rotate_left
      · intro w' hSw
        have hSw' := hSw
        (try dsimp only at hSw')
        obtain ⟨k0, k1, k2, k3, k4⟩ := (show _ ∧ _ ∧ _ ∧ _ ∧ _ from ⟨(G9.out.later hSw').cell 0 rfl, (G9.out.later hSw').cell 1 rfl, (G9.out.later hSw').cell 2 rfl, (G9.out.later hSw').cell 3 rfl, (G9.out.later hSw').cell 4 rfl⟩)
        go_simp
        (try with_reducible rfl)
      (try simp only [Act.put]); (try simp only [List.setIfInBounds_toArray]); (try simp only [List.set_cons_succ]); (try simp only [List.set_cons_zero])
      refine wpAnyH_ready (rs := [1]) (by kernel_rfl) (by simp) ?_
      refine AllReadyH.cons (i := 1) rfl (fun K hK => ?_) AllReadyH.nil
      go_simp
      go_at_call 9
      refine (TKC.out _ (Below.refl w9.heap.size w9).drew).mono ?_
      rintro _ w10 ⟨V, rfl, hv, hb10⟩
      have hb10' : Below w9.heap.size w9 w10 := (Below.refl w9.heap.size w9).drew.trans hb10
      have SMC := Lib.hid (sv_same _ _ _ w10 hv (V9.out.below hb10') (by show s.acs.length ≤ 64; rw [E1.out]; omega) (by show s.pys.length ≤ 2000000; rw [E2.out]; omega))
      obtain ⟨A5, n5, c5, P5, q5, d5, X5, x5, y5, Y5, u5, z5, t5⟩ := V
      unfold Sv.val Sv.cells at SMC
      dsimp only at SMC ⊢
      clear hv hb10
      refine hK.out _ _ hb10' (fun hHeld => ?_)
      clear hK K
      (try simp only [Act.put]); (try simp only [List.setIfInBounds_toArray]); (try simp only [List.set_cons_succ]); (try simp only [List.set_cons_zero])
      refine wpAnyH_ready (rs := [3]) (by kernel_rfl) (by simp) ?_
      refine AllReadyH.cons (i := 3) rfl (fun K hK => ?_) AllReadyH.nil
      go_simp
      go_at_call 14
      refine SMC.out.mono ?_
      rintro _ w11 ⟨rfl, hb11⟩
      have hb11' : Below w9.heap.size w9 w11 := hb10'.trans (hb11.mono hb10'.size)
      clear hb11
      refine hK.out _ _ hb11' (fun hHeld => ?_)
      clear hK K
      (try simp only [Act.put]); (try simp only [List.setIfInBounds_toArray]); (try simp only [List.set_cons_succ]); (try simp only [List.set_cons_zero])
      refine take_at 4 8 (v := ?_) rfl rfl (by kernel_rfl) (by kernel_rfl) (by kernel_rfl) (fun _ _ _ h => h) (Or.inl ⟨by rfl, ?_⟩) (by assumption) ?_
      rotate_left
      · intro w' hSw
        go_simp
        (try with_reducible rfl)
      (try simp only [Act.put]); (try simp only [List.setIfInBounds_toArray]); (try simp only [List.set_cons_succ]); (try simp only [List.set_cons_zero])
      refine wpAnyH_done (by kernel_rfl) ?_ _
      go_wp2
      go_ret
      exact ⟨rfl, B9.out.trans (hb11'.mono B9.out.size)⟩

theorem opsTick_walk (w : World) (v0 : Value) (w0 : BookAt w v0) (a1 : Option Addr) (len1 cap1 : Nat) (w1 : IsRecs paids Pd.fits w a1 len1 cap1) (r1 : cap1 ≤ 1048576) (a2 : Int) (w2 : (Lit.int .u8 a2).wf = true) (a3 : Int) (w3 : (Lit.int .u8 a3).wf = true) (hh : HasErr w) :
    Calls Tryz.prog 4 #[v0, .slice a1 len1 cap1, .int .u8 a2, .int .u8 a3] w fun e w' => e = .returned (.bool true) ∧ Below w.heap.size w w' := by
  obtain ⟨zs, hl, hr, hf, hlc, _, _⟩ := recs_list w1
  obtain ⟨t, rfl, ht⟩ := u8_nat w2
  obtain ⟨m, rfl, hm⟩ := u8_nat w3
  exact opsTick_core w v0 w0 a1 len1 cap1 zs hl hr hf (by omega) t ht m hm hh
end Go.Proofs.YtjnmppdohglcaaaGreatDoor

