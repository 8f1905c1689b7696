/-
  The law OpsMany: as many accounts, and payments, as may be, and no more.
-/
import Derived.Test.YtjnmppdohglcaaaDoorGrG
import Derived.Test.YtjnmppdohglcaaaDoorOpsManyPlain
import Derived.Test.YtjnmppdohglcaaaDoorGrA
import Derived.LoopTactic
import Derived.IntWalk
import Derived.WalkSpells
namespace Go.Proofs.YtjnmppdohglcaaaDoor
open Go Go.RowKit
set_option linter.unusedVariables false

set_option maxRecDepth 100000 in
set_option maxHeartbeats 1000000 in
theorem opsMany_walk (w : World) (a0 : Int) (w0 : (Lit.int .u8 a0).wf = true) (a1 : Int) (w1 : (Lit.int .u8 a1).wf = true) (hh : HasErr w) :
    Calls Tryd.prog 5 #[.int .u8 a0, .int .u8 a1] w fun e w' => e = .returned (.bool true) ∧ Below w.heap.size w w' := by
  obtain ⟨cu, rfl, hcu⟩ := u8_nat w0
  obtain ⟨nn, rfl, hnn⟩ := u8_nat w1
  obtain ⟨C, hC⟩ : ∃ C : Nat, cu % 3 = C := ⟨_, rfl⟩
  have hC1 : (cu : Int) % 3 = (C : Int) := by omega
  have hC3 : (cu : Int).tmod 3 = (C : Int) := by rw [Int.tmod_eq_emod_of_nonneg (by omega)]; exact hC1
  obtain ⟨M, hM⟩ : ∃ M : Nat, nn % 50 = M := ⟨_, rfl⟩
  have hM1 : (nn : Int) % 50 = (M : Int) := by omega
  have hM3 : (nn : Int).tmod 50 = (M : Int) := by rw [Int.tmod_eq_emod_of_nonneg (by omega)]; exact hM1
  have hcc : 0 ≤ (C : Int) ∧ (C : Int) < 3 := by omega
  have hmm : 10 ≤ 10 + (M : Int) ∧ 10 + (M : Int) < 60 := by omega
  have HAW := Lib.hid (oawake_ok w hh)
  have HH := Lib.hid hh
  have HNW := Lib.hid (fun W => sv_new W)
  have HD1 := Lib.hid (fun k V W (hk : k < 55) (hv : SvAt W V (openK C k)) (hb : Below w.heap.size w W) => sv_do V (openK C k) ⟨0, 0, C, 0, 0, 0, 0⟩ W hv (HH.out.below hb) (openK_ok hcc k (by omega)).right (by simp [openK]))
  have HD2 := Lib.hid (fun V W (hv : SvAt W V (openK C 55)) (hb : Below w.heap.size w W) => sv_do V (openK C 55) ⟨0, 0, 0, 0, 0, 0, 0⟩ W hv (HH.out.below hb) (openK_ok hcc 55 (by omega)).right (by simp [openK]))
  have HD3 := Lib.hid (fun V W (hv : SvAt W V (openK C 55)) (hb : Below w.heap.size w W) => sv_do V (openK C 55) ⟨0, 1, 9, 0, 1000, 0, 0⟩ W hv (HH.out.below hb) (openK_ok hcc 55 (by omega)).right (by simp [openK]))
  have HD4 := Lib.hid (fun V T W j (hj : j < 64) (hp : PayK C j T) (hv : SvAt W V T) (hb : Below w.heap.size w W) => sv_do V T ⟨0, 3, 9, 10 + (M : Int), 2, 0, 5⟩ W hv (HH.out.below hb) hp.ok.right (by rw [hp.pays]; omega))
  have HD5 := Lib.hid (fun V T W (hp : PayK C 64 T) (hv : SvAt W V T) (hb : Below w.heap.size w W) => sv_do V T ⟨0, 3, 9, 10, 2, 0, 5⟩ W hv (HH.out.below hb) hp.ok.right (by rw [hp.pays]; omega))
  have HCC := Lib.hid hcc
  have HMM := Lib.hid hmm
  rw [openK_full, show opI (openK C 55) ⟨0, 0, 0, 0, 0, 0, 0⟩ = 0 by unfold opI; rw [if_neg (by rw [openK_full]; decide)]] at HD2
  rw [(rich_is hcc).1, show opI (openK C 55) ⟨0, 1, 9, 0, 1000, 0, 0⟩ = 0 by unfold opI; rw [if_pos (rich_is hcc).1]; rfl, show opS (openK C 55) ⟨0, 1, 9, 0, 1000, 0, 0⟩ = richM C from rfl] at HD3
  have HD1' := Lib.hid (fun k V W (hk : k < 55) (hv : SvAt W V (openK C k)) (hb : Below w.heap.size w W) => by
    have h := HD1.out k V W hk hv hb
    rw [(openK_next hk).1, (openK_next hk).2.1, (openK_next hk).2.2] at h
    exact h)
  have HD4' := Lib.hid (fun V T W j (hj : j < 64) (hp : PayK C j T) (hv : SvAt W V T) (hb : Below w.heap.size w W) => by
    have h := HD4.out V T W j hj hp hv hb
    rw [(hp.next hj HMM.out).1, (hp.next hj HMM.out).2.1] at h
    exact h)
  have HD5' := Lib.hid (fun V T W (hp : PayK C 64 T) (hv : SvAt W V T) (hb : Below w.heap.size w W) => by
    have h := HD5.out V T W hp hv hb
    rw [hp.full, show opI T ⟨0, 3, 9, 10, 2, 0, 5⟩ = 0 by unfold opI; rw [if_neg (by rw [hp.full]; decide)]] at h
    exact h)
  unfold Rq.val Sv.val Sv.cells at HD1' HD2 HD3 HD4' HD5'
  unfold Sv.val Sv.cells at HNW
  dsimp only at HD1' HD2 HD3 HD4' HD5' HNW
  clear HD1 HD4 HD5 hh w0 w1 hcc hmm hC hM
  go_enter Tryd.func5, Tryd.ntmps5
  go_wp2_with fail
  refine HAW.out.mono ?_
  rintro _ wa ⟨rfl, hba⟩
  have HA := Lib.hid hba
  clear hba
  go_wp2_with fail
  refine (HNW.out _).mono ?_
  rintro _ w1 ⟨V, rfl, hv, hb1⟩
  have B1 := Lib.hid (HA.out.trans (hb1.mono HA.out.size))
  obtain ⟨A1, n1, c1, P1, q1, d1, X1, x1, y1, Y1, u1, z1, t1⟩ := V
  dsimp only at hv ⊢
  have V1 := Lib.hid hv
  clear hv hb1 HNW HA HAW
  go_upto_region 4 with fail
  have al := (Below.refl w1.heap.size w1).alloc (Nat.le_refl _) (.cells #[.slice A1 n1 c1, .slice P1 q1 d1, .slice X1 x1 y1, .slice Y1 u1 z1, .int .i64 t1] 36)
  have G1 := Lib.hid (Blk.new w1 36 #[.slice A1 n1 c1, .slice P1 q1 d1, .slice X1 x1 y1, .slice Y1 u1 z1, .int .i64 t1])
  have W1 := Lib.hid (V1.out.below al)
  have B2 := Lib.hid (B1.out.trans (al.mono B1.out.size))
  have hg : w.heap.size ≤ w1.heap.size := B1.out.size
  clear al V1 B1
  generalize w1.alloc (.cells #[.slice A1 n1 c1, .slice P1 q1 d1, .slice X1 x1 y1, .slice Y1 u1 z1, .int .i64 t1] 36) = w2 at G1 W1 B2 ⊢
  generalize w1.heap.size = g at G1 hg ⊢
  go_wp2
  go_loopw [6] (fun i wr => ∃ (k : Nat) (V : Sv), k ≤ 55 ∧ i = .int .i64 (9 + (k : Int)) ∧ Blk wr g 36 V.cells ∧ SvAt wr V (openK C k) ∧ Below w.heap.size w wr) (fun i _ => 64 - (intOf i).toNat)
  case atStart => exact ⟨0, ⟨A1, n1, c1, P1, q1, d1, X1, x1, y1, Y1, u1, z1, t1⟩, by omega, rfl, G1.out, W1.out, B2.out⟩
  case round =>
    obtain ⟨k, V, hk, rfl, hG, hV, hB⟩ := hrel
    obtain ⟨A3, n3, c3, P3, q3, d3, X3, x3, y3, Y3, u3, z3, t3⟩ := V
    unfold Sv.cells at hG
    dsimp only at hG
    have G3 := Lib.hid hG
    have V3 := Lib.hid hV
    have B3 := Lib.hid hB
    obtain ⟨a0, a1, a2, a3, a4⟩ := (show _ ∧ _ ∧ _ ∧ _ ∧ _ from ⟨G3.out.cell 0 rfl, G3.out.cell 1 rfl, G3.out.cell 2 rfl, G3.out.cell 3 rfl, G3.out.cell 4 rfl⟩)
    clear hG hV hB
    by_cases hlt : k < 55
    · have D3 := Lib.hid (HD1'.out k ⟨A3, n3, c3, P3, q3, d3, X3, x3, y3, Y3, u3, z3, t3⟩ wr hlt V3.out B3.out)
      dsimp only at D3
      go_wp2_with fail
      refine D3.out.mono ?_
      rintro _ w4 ⟨V, rfl, hv, hb4⟩
      obtain ⟨A4, n4, c4, P4, q4, d4, X4, x4, y4, Y4, u4, z4, t4⟩ := V
      dsimp only at hv ⊢
      have V4 := Lib.hid hv
      have G4 := Lib.hid (G3.out.later hb4)
      have B4 := Lib.hid (B3.out.trans (hb4.mono B3.out.size))
      clear hv hb4 D3 G3 V3 B3 a0 a1 a2 a3 a4
      obtain ⟨a0, a1, a2, a3, a4⟩ := (show _ ∧ _ ∧ _ ∧ _ ∧ _ from ⟨G4.out.cell 0 rfl, G4.out.cell 1 rfl, G4.out.cell 2 rfl, G4.out.cell 3 rfl, G4.out.cell 4 rfl⟩)
      obtain ⟨f0, f1, f2, f3, f4⟩ := (show _ ∧ _ ∧ _ ∧ _ ∧ _ from ⟨G4.out.loose 0, G4.out.loose 1, G4.out.loose 2, G4.out.loose 3, G4.out.loose 4⟩)
      have hg4 : g < w4.heap.size := G4.out.lt
      go_wp2
      go_roundw
      · have S5 := sv_put (V0 := ⟨A3, n3, c3, P3, q3, d3, X3, x3, y3, Y3, u3, z3, t3⟩) V4.out G4.out (.slice A4 n4 c4) (.slice P4 q4 d4) (.slice X4 x4 y4) (.slice Y4 u4 z4) (.int .i64 t4)
        have K5 := st_put G4.out rfl (.slice A4 n4 c4) (.slice P4 q4 d4) (.slice X4 x4 y4) (.slice Y4 u4 z4) (.int .i64 t4)
        have M5 := st_below B4.out hg (.slice A4 n4 c4) (.slice P4 q4 d4) (.slice X4 x4 y4) (.slice Y4 u4 z4) (.int .i64 t4)
        exact ⟨k + 1, ⟨A4, n4, c4, P4, q4, d4, X4, x4, y4, Y4, u4, z4, t4⟩, by omega, by first | (congr 1; done) | (congr 1; omega), (K5.more _).more _, (S5.alloc _).alloc _, (M5.alloc M5.size _).alloc (Nat.le_trans M5.size (by simp)) _⟩
      · simp [intOf]; omega
    · obtain rfl : k = 55 := by omega
      have D5 := Lib.hid (HD2.out ⟨A3, n3, c3, P3, q3, d3, X3, x3, y3, Y3, u3, z3, t3⟩ wr V3.out B3.out)
      dsimp only at D5
      go_wp2_with fail
      refine D5.out.mono ?_
      rintro _ w5 ⟨V, rfl, hv, hb5⟩
      obtain ⟨A5, n5, c5, P5, q5, d5, X5, x5, y5, Y5, u5, z5, t5⟩ := V
      dsimp only
      have G5 := Lib.hid (G3.out.later hb5)
      have V5 := Lib.hid (V3.out.below hb5)
      have B5 := Lib.hid (B3.out.trans (hb5.mono B3.out.size))
      clear hv hb5 D5 G3 V3 B3 a0 a1 a2 a3 a4 HD1' HD2
      go_upto_region 12 with fail
      have al := ((Below.refl w5.heap.size w5).alloc (Nat.le_refl _) (.cells #[.slice A5 n5 c5, .slice P5 q5 d5, .slice X5 x5 y5, .slice Y5 u5 z5, .int .i64 t5] 36)).alloc (by simp) (.cells #[.int .i64 7, .int .i64 0] 40)
      have r5 := Blk.new (w5.alloc (.cells #[.slice A5 n5 c5, .slice P5 q5 d5, .slice X5 x5 y5, .slice Y5 u5 z5, .int .i64 t5] 36)) 40 #[.int .i64 7, .int .i64 0]
      rw [alloc_size] at r5
      have R6 := Lib.hid r5
      have G6 := Lib.hid (G5.out.later al)
      have V6 := Lib.hid (V5.out.below al)
      have B6 := Lib.hid (B5.out.trans (al.mono B5.out.size))
      have hgf : g < w5.heap.size + 1 := by have := G5.out.lt; omega
      clear r5 al G5 V5 B5
      generalize (w5.alloc (.cells #[.slice A5 n5 c5, .slice P5 q5 d5, .slice X5 x5 y5, .slice Y5 u5 z5, .int .i64 t5] 36)).alloc (.cells #[.int .i64 7, .int .i64 0] 40) = w6 at R6 G6 V6 B6 ⊢
      generalize w5.heap.size + 1 = gf at R6 hgf ⊢
      obtain ⟨a0, a1, a2, a3, a4⟩ := (show _ ∧ _ ∧ _ ∧ _ ∧ _ from ⟨G6.out.cell 0 rfl, G6.out.cell 1 rfl, G6.out.cell 2 rfl, G6.out.cell 3 rfl, G6.out.cell 4 rfl⟩)
      have D6 := Lib.hid (HD3.out ⟨A3, n3, c3, P3, q3, d3, X3, x3, y3, Y3, u3, z3, t3⟩ w6 V6.out B6.out)
      dsimp only at D6
      go_wp2_with fail
      refine D6.out.mono ?_
      rintro _ w7 ⟨V, rfl, hv, hb7⟩
      obtain ⟨A7, n7, c7, P7, q7, d7, X7, x7, y7, Y7, u7, z7, t7⟩ := V
      dsimp only at hv ⊢
      have V7 := Lib.hid hv
      have G7 := Lib.hid (G6.out.later hb7)
      have R7 := Lib.hid (R6.out.later hb7)
      have B7 := Lib.hid (B6.out.trans (hb7.mono B6.out.size))
      clear hv hb7 D6 G6 V6 R6 B6 a0 a1 a2 a3 a4 HD3
      obtain ⟨a0, a1, a2, a3, a4⟩ := (show _ ∧ _ ∧ _ ∧ _ ∧ _ from ⟨G7.out.cell 0 rfl, G7.out.cell 1 rfl, G7.out.cell 2 rfl, G7.out.cell 3 rfl, G7.out.cell 4 rfl⟩)
      obtain ⟨f0, f1, f2, f3, f4⟩ := (show _ ∧ _ ∧ _ ∧ _ ∧ _ from ⟨G7.out.loose 0, G7.out.loose 1, G7.out.loose 2, G7.out.loose 3, G7.out.loose 4⟩)
      have hg7 : g < w7.heap.size := G7.out.lt
      have hf7 : gf < w7.heap.size := R7.out.lt
      go_upto_region 14 with fail
      have S8 := sv_put (V0 := ⟨A3, n3, c3, P3, q3, d3, X3, x3, y3, Y3, u3, z3, t3⟩) V7.out G7.out (.slice A7 n7 c7) (.slice P7 q7 d7) (.slice X7 x7 y7) (.slice Y7 u7 z7) (.int .i64 t7)
      have K8 := st_put G7.out rfl (.slice A7 n7 c7) (.slice P7 q7 d7) (.slice X7 x7 y7) (.slice Y7 u7 z7) (.int .i64 t7)
      have O8 := st_other R7.out (show g ≠ gf by omega) (.slice A7 n7 c7) (.slice P7 q7 d7) (.slice X7 x7 y7) (.slice Y7 u7 z7) (.int .i64 t7)
      have M8 := st_below B7.out hg (.slice A7 n7 c7) (.slice P7 q7 d7) (.slice X7 x7 y7) (.slice Y7 u7 z7) (.int .i64 t7)
      have N8 : w7.heap.size = ((((((w7).setCell ⟨g, 0, none⟩ (.slice A7 n7 c7)).setCell ⟨g, 1, none⟩ (.slice P7 q7 d7)).setCell ⟨g, 2, none⟩ (.slice X7 x7 y7)).setCell ⟨g, 3, none⟩ (.slice Y7 u7 z7)).setCell ⟨g, 4, none⟩ (.int .i64 t7)).heap.size := by simp
      generalize (((((w7).setCell ⟨g, 0, none⟩ (.slice A7 n7 c7)).setCell ⟨g, 1, none⟩ (.slice P7 q7 d7)).setCell ⟨g, 2, none⟩ (.slice X7 x7 y7)).setCell ⟨g, 3, none⟩ (.slice Y7 u7 z7)).setCell ⟨g, 4, none⟩ (.int .i64 t7) = x8 at S8 K8 O8 M8 N8 ⊢
      have V8 := Lib.hid (S8.alloc (.cells #[.int .i64 0, .int .i64 0] 40))
      have G8 := Lib.hid (K8.more (.cells #[.int .i64 0, .int .i64 0] 40))
      have R8 := Lib.hid (O8.more (.cells #[.int .i64 0, .int .i64 0] 40))
      have Q8 := Lib.hid (N8 ▸ Blk.new x8 40 #[.int .i64 0, .int .i64 0] : Blk (x8.alloc (.cells #[.int .i64 0, .int .i64 0] 40)) w7.heap.size 40 #[.int .i64 0, .int .i64 0])
      have B8 := Lib.hid (M8.alloc M8.size (.cells #[.int .i64 0, .int .i64 0] 40))
      clear S8 K8 O8 M8 N8 a0 a1 a2 a3 a4 f0 f1 f2 f3 f4 V7 G7 R7 B7
      generalize x8.alloc (.cells #[.int .i64 0, .int .i64 0] 40) = w8 at V8 G8 R8 Q8 B8 ⊢
      generalize w7.heap.size = gd at Q8 hg7 hf7 ⊢
      go_loopw [12] (fun i wr => ∃ (j : Nat) (V : Sv) (T : St), j ≤ 64 ∧ i = .int .i64 (j : Int) ∧ PayK C j T ∧ Blk wr g 36 V.cells ∧ SvAt wr V T ∧ Blk wr gf 40 #[.int .i64 7, .int .i64 0] ∧ Blk wr gd 40 #[.int .i64 0, .int .i64 0] ∧ Below w.heap.size w wr) (fun i _ => 64 - (intOf i).toNat)
      case atStart => exact ⟨0, ⟨A7, n7, c7, P7, q7, d7, X7, x7, y7, Y7, u7, z7, t7⟩, richM C, by omega, rfl, PayK.first HCC.out, G8.out, V8.out, R8.out, Q8.out, B8.out⟩
      case round =>
        obtain ⟨j, V, T, hj, rfl, hP, hG, hV, hR, hQ, hB⟩ := hrel
        obtain ⟨A9, n9, c9, P9, q9, d9, X9, x9, y9, Y9, u9, z9, t9⟩ := V
        unfold Sv.cells at hG
        dsimp only at hG
        have G9 := Lib.hid hG
        have V9 := Lib.hid hV
        have R9 := Lib.hid hR
        have Q9 := Lib.hid hQ
        have B9 := Lib.hid hB
        have HP := Lib.hid hP
        obtain ⟨a0, a1, a2, a3, a4⟩ := (show _ ∧ _ ∧ _ ∧ _ ∧ _ from ⟨G9.out.cell 0 rfl, G9.out.cell 1 rfl, G9.out.cell 2 rfl, G9.out.cell 3 rfl, G9.out.cell 4 rfl⟩)
        clear hG hV hR hQ hB hP
        by_cases hlt : j < 64
        · have D9 := Lib.hid (HD4'.out ⟨A9, n9, c9, P9, q9, d9, X9, x9, y9, Y9, u9, z9, t9⟩ T wr j hlt HP.out V9.out B9.out)
          have HNX := Lib.hid (HP.out.next hlt HMM.out).2.2
          dsimp only at D9
          go_wp2_with fail
          refine D9.out.mono ?_
          rintro _ wx ⟨V, rfl, hv, hbx⟩
          obtain ⟨A0, n0, c0, P0, q0, d0, X0, x0, y0, Y0, u0, z0, t0⟩ := V
          dsimp only at hv ⊢
          have V0 := Lib.hid hv
          have G0 := Lib.hid (G9.out.later hbx)
          have R0 := Lib.hid (R9.out.later hbx)
          have Q0 := Lib.hid (Q9.out.later hbx)
          have B0 := Lib.hid (B9.out.trans (hbx.mono B9.out.size))
          clear hv hbx D9 G9 V9 R9 Q9 B9 a0 a1 a2 a3 a4
          obtain ⟨a0, a1, a2, a3, a4⟩ := (show _ ∧ _ ∧ _ ∧ _ ∧ _ from ⟨G0.out.cell 0 rfl, G0.out.cell 1 rfl, G0.out.cell 2 rfl, G0.out.cell 3 rfl, G0.out.cell 4 rfl⟩)
          obtain ⟨f0, f1, f2, f3, f4⟩ := (show _ ∧ _ ∧ _ ∧ _ ∧ _ from ⟨G0.out.loose 0, G0.out.loose 1, G0.out.loose 2, G0.out.loose 3, G0.out.loose 4⟩)
          have hg0 : g < wx.heap.size := G0.out.lt
          go_wp2
          go_roundw
          · have S5 := sv_put (V0 := ⟨A9, n9, c9, P9, q9, d9, X9, x9, y9, Y9, u9, z9, t9⟩) V0.out G0.out (.slice A0 n0 c0) (.slice P0 q0 d0) (.slice X0 x0 y0) (.slice Y0 u0 z0) (.int .i64 t0)
            have K5 := st_put G0.out rfl (.slice A0 n0 c0) (.slice P0 q0 d0) (.slice X0 x0 y0) (.slice Y0 u0 z0) (.int .i64 t0)
            have O5 := st_other R0.out (show g ≠ gf by omega) (.slice A0 n0 c0) (.slice P0 q0 d0) (.slice X0 x0 y0) (.slice Y0 u0 z0) (.int .i64 t0)
            have U5 := st_other Q0.out (show g ≠ gd by omega) (.slice A0 n0 c0) (.slice P0 q0 d0) (.slice X0 x0 y0) (.slice Y0 u0 z0) (.int .i64 t0)
            have M5 := st_below B0.out hg (.slice A0 n0 c0) (.slice P0 q0 d0) (.slice X0 x0 y0) (.slice Y0 u0 z0) (.int .i64 t0)
            exact ⟨j + 1, ⟨A0, n0, c0, P0, q0, d0, X0, x0, y0, Y0, u0, z0, t0⟩, _, by omega, by first | (congr 1; done) | (congr 1; omega), HNX.out, (K5.more _).more _, (S5.alloc _).alloc _, (O5.more _).more _, (U5.more _).more _, (M5.alloc M5.size _).alloc (Nat.le_trans M5.size (by simp)) _⟩
          · simp [intOf]; omega
        · obtain rfl : j = 64 := by omega
          have D9 := Lib.hid (HD5'.out ⟨A9, n9, c9, P9, q9, d9, X9, x9, y9, Y9, u9, z9, t9⟩ T wr HP.out V9.out B9.out)
          dsimp only at D9
          go_wp2_with fail
          refine D9.out.mono ?_
          rintro _ wx ⟨V, rfl, hv, hbx⟩
          obtain ⟨A0, n0, c0, P0, q0, d0, X0, x0, y0, Y0, u0, z0, t0⟩ := V
          dsimp only
          have V0 := Lib.hid (V9.out.below hbx)
          have G0 := Lib.hid (G9.out.later hbx)
          have R0 := Lib.hid (R9.out.later hbx)
          have Q0 := Lib.hid (Q9.out.later hbx)
          have B0 := Lib.hid (B9.out.trans (hbx.mono B9.out.size))
          clear hv hbx D9 G9 V9 R9 Q9 B9 a0 a1 a2 a3 a4
          obtain ⟨a0, a1, a2, a3, a4⟩ := (show _ ∧ _ ∧ _ ∧ _ ∧ _ from ⟨G0.out.cell 0 rfl, G0.out.cell 1 rfl, G0.out.cell 2 rfl, G0.out.cell 3 rfl, G0.out.cell 4 rfl⟩)
          have b0 := R0.out.cell 0 rfl
          have e0 := Q0.out.cell 0 rfl
          have h1 : g < wx.heap.size := G0.out.lt
          have h2 : gf < wx.heap.size := R0.out.lt
          have h3 : gd < wx.heap.size := Q0.out.lt
          have hn := V0.out.n
          have hl := HP.out.len
          obtain ⟨ad, hA, x9⟩ := V0.out.st.accs.at_ (j := 9) (a := ⟨C, 1000, 128⟩) (by
            have h9 := HP.out.nine
            have hlt9 : 9 < T.acs.length := by omega
            unfold acOf at h9
            rw [List.getD_eq_getElem?_getD, List.getElem?_eq_getElem (by simpa using hlt9)] at h9
            rw [List.getElem?_eq_getElem hlt9]
            exact congrArg some h9)
          dsimp only at hA hn
          subst hA
          obtain rfl : n9 = 64 := by omega
          obtain ⟨_, _, x9⟩ := x9
          rw [add_next ad (9 * 3) 2 (by omega), add_lit ad (9 * 3) (by omega)] at x9
          dsimp only [Nat.reduceMul] at x9
          have h8 : ad.block < wx.heap.size := by have := World.block_lt_of_cell? _ _ x9; exact this
          clear hn hl
          go_wp2
          go_ret
          exact ⟨rfl, (B0.out.alloc B0.out.size _).alloc (Nat.le_trans B0.out.size (by simp)) _⟩
end Go.Proofs.YtjnmppdohglcaaaDoor

