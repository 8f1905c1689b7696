/-
  The law OpsRaw: what any request makes of a state is what the document says.
-/
import Derived.Test.YtjnmppdohglcaaaDoorGrG
import Derived.Test.YtjnmppdohglcaaaDoorOpsState
import Derived.Test.YtjnmppdohglcaaaDoorOpsLen
import Derived.Test.YtjnmppdohglcaaaDoorSvLawDo
import Derived.Test.YtjnmppdohglcaaaDoorGrB
import Derived.Deep.RegionHeld3
import Derived.IntWalk
import Derived.WalkSpells
namespace Go.Proofs.YtjnmppdohglcaaaDoor
open Go Go.RowKit
set_option linter.unusedVariables false

set_option maxRecDepth 100000 in
set_option maxHeartbeats 4000000 in
theorem opsRaw_core (w : World) (b : Value) (hb : BookAt w b) (a1 : Option Addr) (l1 c1 : Nat) (zs : List Pd) (hzl : zs.length = l1) (hr : RdS paids w a1 zs) (hfit : ∀ (j : Nat) z, zs[j]? = some z → z.fits) (hl : l1 ≤ 1900000) (r : Rq) (hh : HasErr w) :
    Calls Tryd.prog 3 #[b, .slice a1 l1 c1, r.val] w fun e w' => e = .returned (.bool true) ∧ Below w.heap.size w w' := by
  have HST := Lib.hid (fun W (hW : Below w.heap.size w W) => (state_any hb a1 l1 c1 zs hzl 0 (by omega) hl W hW (hr.below hW) hfit : Calls Tryd.prog 7 #[b, .slice a1 l1 c1, .int .u8 0] W _))
  have HAW := Lib.hid (fun W (hW : Below w.heap.size w W) => oawake_ok W (hh.below hW))
  have HH := Lib.hid hh
  obtain ⟨CA, HA, LA, cl, cc, hl', hc, ll, lc, cs, hs, ls, rfl, h1, h2, h3, h4, h5, h6, h7, h8, h9⟩ := hb.form
  unfold Sv.val Sv.cells at HST
  obtain ⟨k, o, a, bb, m, l, u⟩ := r
  unfold Rq.val
  dsimp only
  clear h1 h2 h3 h4 h5 h6 h7 h8 h9 hb hzl hr hfit hh
  go_enter Tryd.func3, Tryd.ntmps3
  go_wp2_with fail
  have al := ((Below.refl w.heap.size w).alloc (Nat.le_refl _) (.cells #[.slice CA cl cc, .slice HA hl' hc, .slice LA ll lc] 25)).alloc (by simp) (.cells #[.int .i64 k, .int .i64 o, .int .i64 a, .int .i64 bb, .int .i64 m, .int .i64 l, .int .i64 u] 29)
  have q1 := (Blk.new w 25 #[.slice CA cl cc, .slice HA hl' hc, .slice LA ll lc]).more (.cells #[.int .i64 k, .int .i64 o, .int .i64 a, .int .i64 bb, .int .i64 m, .int .i64 l, .int .i64 u] 29)
  have q2 := Blk.new (w.alloc (.cells #[.slice CA cl cc, .slice HA hl' hc, .slice LA ll lc] 25)) 29 #[.int .i64 k, .int .i64 o, .int .i64 a, .int .i64 bb, .int .i64 m, .int .i64 l, .int .i64 u]
  rw [alloc_size] at q2
  refine (HAW.out _ al).mono ?_
  rintro _ wa ⟨rfl, hba⟩
  have HBk := Lib.hid (q1.later hba)
  have HR0 := Lib.hid (q2.later hba)
  have HWA := Lib.hid (al.trans (hba.mono al.size))
  clear hba HAW al q1 q2
  obtain ⟨b0, b1, b2⟩ := (show _ ∧ _ ∧ _ from ⟨HBk.out.cell 0 rfl, HBk.out.cell 1 rfl, HBk.out.cell 2 rfl⟩)
  go_wp2_with fail
  refine (HST.out _ HWA.out).mono ?_
  rintro _ w1 ⟨V, s, rfl, hv, hM, hb1⟩
  have B1 := Lib.hid (HWA.out.trans (hb1.mono HWA.out.size))
  have R1 := Lib.hid (HR0.out.later hb1)
  have MD := Lib.hid hM
  obtain ⟨A1, n1, c1', P1, q1, d1, X1, x1, y1, Y1, u1, z1, t1⟩ := V
  have e1 := hv.n
  have e2 := hv.q
  dsimp only at hv e1 e2 ⊢
  rw [hM.len] at e1
  subst e1
  have V1 := Lib.hid hv
  obtain ⟨E, hE⟩ : ∃ x, opE s ⟨k, o, a, bb, m, l, u⟩ = x := ⟨_, rfl⟩
  obtain ⟨I, hI⟩ : ∃ x, opI s ⟨k, o, a, bb, m, l, u⟩ = x := ⟨_, rfl⟩
  obtain ⟨T, hT⟩ : ∃ x, opS s ⟨k, o, a, bb, m, l, u⟩ = x := ⟨_, rfl⟩
  have HLN := Lib.hid (show T.acs.length ≤ 64 ∧ T.pys.length ≤ 2000000 from by
    have h1 := opS_len s ⟨k, o, a, bb, m, l, u⟩
    have h2 := hM.len
    have h3 := hM.pays
    rw [hT] at h1
    omega)
  have HNO := Lib.hid (show E ≠ 0 → T = s from fun h0 => by rw [← hT]; exact opS_no (by rw [hE]; exact h0))
  have HDO := Lib.hid (fun W (h : SvAt W ⟨A1, 15, c1', P1, q1, d1, X1, x1, y1, Y1, u1, z1, t1⟩ s) (hW : Below w.heap.size w W) => sv_do _ s ⟨k, o, a, bb, m, l, u⟩ W h (HH.out.below hW) MD.out.ok.right MD.out.ok.few)
  have HLW := Lib.hid (fun W (h : SvAt W ⟨A1, 15, c1', P1, q1, d1, X1, x1, y1, Y1, u1, z1, t1⟩ s) (hW : Below w.heap.size w W) => sv_lawdo _ s ⟨k, o, a, bb, m, l, u⟩ W h (HH.out.below hW) MD.out.ok.right (by rw [MD.out.len]; omega) (by rw [MD.out.len]; omega) MD.out.ok.few)
  rw [hE, hI, hT] at HDO HLW
  unfold Rq.val Sv.val Sv.cells at HDO HLW
  dsimp only at HDO HLW
  clear e2 hv hb1 hM HST HWA HBk HR0 b0 b1 b2 hE hI hT
  go_upto_region 4 with fail
  have al := (Below.refl w1.heap.size w1).alloc (Nat.le_refl _) (.cells #[.slice A1 15 c1', .slice P1 q1 d1, .slice X1 x1 y1, .slice Y1 u1 z1, .int .i64 t1] 36)
  have G2 := Lib.hid (Blk.new w1 36 #[.slice A1 15 c1', .slice P1 q1 d1, .slice X1 x1 y1, .slice Y1 u1 z1, .int .i64 t1])
  have R2 := Lib.hid (R1.out.later al)
  have V2 := Lib.hid (V1.out.below al)
  have B2 := Lib.hid (B1.out.trans (al.mono B1.out.size))
  have hg : w.heap.size + 1 < w1.heap.size := R1.out.lt
  clear al V1 B1 R1
  generalize w1.alloc (.cells #[.slice A1 15 c1', .slice P1 q1 d1, .slice X1 x1 y1, .slice Y1 u1 z1, .int .i64 t1] 36) = w2 at G2 R2 V2 B2 ⊢
  generalize w1.heap.size = g at G2 hg ⊢
  obtain ⟨s0, s1, s2, s3, s4⟩ := (show _ ∧ _ ∧ _ ∧ _ ∧ _ from ⟨G2.out.cell 0 rfl, G2.out.cell 1 rfl, G2.out.cell 2 rfl, G2.out.cell 3 rfl, G2.out.cell 4 rfl⟩)
  obtain ⟨r0, r1, r2, r3, r4, r5, r6⟩ := (show _ ∧ _ ∧ _ ∧ _ ∧ _ ∧ _ ∧ _ from ⟨R2.out.cell 0 rfl, R2.out.cell 1 rfl, R2.out.cell 2 rfl, R2.out.cell 3 rfl, R2.out.cell 4 rfl, R2.out.cell 5 rfl, R2.out.cell 6 rfl⟩)
  go_wp2_with fail
  refine (HDO.out _ V2.out B2.out).mono ?_
  rintro _ w3 ⟨V, rfl, hv, hb3⟩
  obtain ⟨A3, n3, c3, P3, q3, d3, X3, x3, y3, Y3, u3, z3, t3⟩ := V
  dsimp only at hv ⊢
  have W3 := Lib.hid hv
  have G3 := Lib.hid (G2.out.later hb3)
  have R3 := Lib.hid (R2.out.later hb3)
  have V3 := Lib.hid (V2.out.below hb3)
  have B3 := Lib.hid (B2.out.trans (hb3.mono B2.out.size))
  clear hv hb3 G2 R2 V2 B2 HDO s0 s1 s2 s3 s4 r0 r1 r2 r3 r4 r5 r6
  go_upto_region 5 with fail
  have hgg : g < w3.heap.size := G3.out.lt
  have L4 := (((Below.refl w3.heap.size w3).alloc (Nat.le_refl _) (.cells #[.slice A3 n3 c3, .slice P3 q3 d3, .slice X3 x3 y3, .slice Y3 u3 z3, .int .i64 t3] 36)).alloc (by simp) (.cells #[.int .i64 E, .int .i64 I] 40))
  have q2 := Blk.new (w3.alloc (.cells #[.slice A3 n3 c3, .slice P3 q3 d3, .slice X3 x3 y3, .slice Y3 u3 z3, .int .i64 t3] 36)) 40 #[.int .i64 E, .int .i64 I]
  rw [alloc_size] at q2
  have N4 := Lib.hid q2
  have T4 := Lib.hid ((Blk.new w3 36 #[.slice A3 n3 c3, .slice P3 q3 d3, .slice X3 x3 y3, .slice Y3 u3 z3, .int .i64 t3]).more (.cells #[.int .i64 E, .int .i64 I] 40))
  have W4 := Lib.hid (W3.out.below L4)
  have G4 := Lib.hid (G3.out.later L4)
  have R4 := Lib.hid (R3.out.later L4)
  have V4 := Lib.hid (V3.out.below L4)
  have B4 := Lib.hid (B3.out.trans (L4.mono B3.out.size))
  clear q2 L4 W3 G3 R3 V3 B3
  generalize (w3.alloc (.cells #[.slice A3 n3 c3, .slice P3 q3 d3, .slice X3 x3 y3, .slice Y3 u3 z3, .int .i64 t3] 36)).alloc (.cells #[.int .i64 E, .int .i64 I] 40) = w4 at N4 T4 W4 G4 R4 V4 B4 ⊢
  generalize w3.heap.size = gt at N4 T4 hgg ⊢
  obtain ⟨s0, s1, s2, s3, s4⟩ := (show _ ∧ _ ∧ _ ∧ _ ∧ _ from ⟨G4.out.cell 0 rfl, G4.out.cell 1 rfl, G4.out.cell 2 rfl, G4.out.cell 3 rfl, G4.out.cell 4 rfl⟩)
  obtain ⟨r0, r1, r2, r3, r4, r5, r6⟩ := (show _ ∧ _ ∧ _ ∧ _ ∧ _ ∧ _ ∧ _ from ⟨R4.out.cell 0 rfl, R4.out.cell 1 rfl, R4.out.cell 2 rfl, R4.out.cell 3 rfl, R4.out.cell 4 rfl, R4.out.cell 5 rfl, R4.out.cell 6 rfl⟩)
  go_wp2_with fail
  refine (HLW.out _ V4.out B4.out).mono ?_
  rintro _ w5 ⟨V, rfl, hv, hb5⟩
  obtain ⟨A5, n5, c5, P5, q5, d5, X5, x5, y5, Y5, u5, z5, t5⟩ := V
  dsimp only at hv ⊢
  have Hy5 := Lib.hid hv
  have N5 := Lib.hid (N4.out.later hb5)
  have T5 := Lib.hid (T4.out.later hb5)
  have W5 := Lib.hid (W4.out.below hb5)
  have G5 := Lib.hid (G4.out.later hb5)
  have V5 := Lib.hid (V4.out.below hb5)
  have B5 := Lib.hid (B4.out.trans (hb5.mono B4.out.size))
  clear hv hb5 N4 T4 W4 G4 R4 V4 B4 HLW s0 s1 s2 s3 s4 r0 r1 r2 r3 r4 r5 r6
  go_upto_region 6 with fail
  have hgt : gt + 1 < w5.heap.size := N5.out.lt
  have L6 := (((Below.refl w5.heap.size w5).alloc (Nat.le_refl _) (.cells #[.slice A5 n5 c5, .slice P5 q5 d5, .slice X5 x5 y5, .slice Y5 u5 z5, .int .i64 t5] 36)).alloc (by simp) (.cells #[.int .i64 E, .int .i64 I] 40))
  have q2 := Blk.new (w5.alloc (.cells #[.slice A5 n5 c5, .slice P5 q5 d5, .slice X5 x5 y5, .slice Y5 u5 z5, .int .i64 t5] 36)) 40 #[.int .i64 E, .int .i64 I]
  rw [alloc_size] at q2
  have M6 := Lib.hid q2
  have S6 := Lib.hid ((Blk.new w5 36 #[.slice A5 n5 c5, .slice P5 q5 d5, .slice X5 x5 y5, .slice Y5 u5 z5, .int .i64 t5]).more (.cells #[.int .i64 E, .int .i64 I] 40))
  have Hy6 := Lib.hid (Hy5.out.below L6)
  have N6 := Lib.hid (N5.out.later L6)
  have T6 := Lib.hid (T5.out.later L6)
  have W6 := Lib.hid (W5.out.below L6)
  have G6 := Lib.hid (G5.out.later L6)
  have V6 := Lib.hid (V5.out.below L6)
  have B6 := Lib.hid (B5.out.trans (L6.mono B5.out.size))
  clear q2 L6 Hy5 N5 T5 W5 G5 V5 B5
  generalize (w5.alloc (.cells #[.slice A5 n5 c5, .slice P5 q5 d5, .slice X5 x5 y5, .slice Y5 u5 z5, .int .i64 t5] 36)).alloc (.cells #[.int .i64 E, .int .i64 I] 40) = w6 at M6 S6 Hy6 N6 T6 W6 G6 V6 B6 ⊢
  generalize w5.heap.size = gw at M6 S6 hgt ⊢
  have HSA := Lib.hid (fun W (h : Below w6.heap.size w6 W) => sv_same _ _ T W (W6.out.below h) (Hy6.out.below h) HLN.out.1 HLN.out.2)
  unfold Sv.val Sv.cells at HSA
  dsimp only at HSA
  obtain ⟨n0, n1⟩ := (show _ ∧ _ from ⟨N6.out.cell 0 rfl, N6.out.cell 1 rfl⟩)
  obtain ⟨m0, m1⟩ := (show _ ∧ _ from ⟨M6.out.cell 0 rfl, M6.out.cell 1 rfl⟩)
  obtain ⟨t0, t1, t2, t3, t4⟩ := (show _ ∧ _ ∧ _ ∧ _ ∧ _ from ⟨T6.out.cell 0 rfl, T6.out.cell 1 rfl, T6.out.cell 2 rfl, T6.out.cell 3 rfl, T6.out.cell 4 rfl⟩)
  obtain ⟨y0, y1, y2, y3, y4⟩ := (show _ ∧ _ ∧ _ ∧ _ ∧ _ from ⟨S6.out.cell 0 rfl, S6.out.cell 1 rfl, S6.out.cell 2 rfl, S6.out.cell 3 rfl, S6.out.cell 4 rfl⟩)
  by_cases hE0 : E = 0
  · have qe := eqT hE0
    clear hE0
    go_wp2_with (go_at_call 10; refine (HSA.out _ (Below.refl _ _)).mono ?_; rintro _ w7 ⟨rfl, hb7⟩; have n7 := (N6.out.later hb7).cell 0 rfl)
    go_ret
    exact ⟨rfl, B6.out.trans (hb7.mono B6.out.size)⟩
  · have qe := eqF hE0
    have HSB := Lib.hid (fun W (h : Below w6.heap.size w6 W) => sv_same _ _ s W (HNO.out hE0 ▸ W6.out.below h) (V6.out.below h) (by rw [MD.out.len]; omega) MD.out.ok.few)
    unfold Sv.val Sv.cells at HSB
    dsimp only at HSB
    clear hE0
    go_wp2_with (first
      | (go_at_call_of 10 A5; refine (HSA.out _ (Below.refl _ _)).mono ?_; rintro _ w7 ⟨rfl, hb7⟩; have n7 := (N6.out.later hb7).cell 0 rfl; obtain ⟨t0, t1, t2, t3, t4⟩ := (show _ ∧ _ ∧ _ ∧ _ ∧ _ from ⟨(T6.out.later hb7).cell 0 rfl, (T6.out.later hb7).cell 1 rfl, (T6.out.later hb7).cell 2 rfl, (T6.out.later hb7).cell 3 rfl, (T6.out.later hb7).cell 4 rfl⟩); obtain ⟨g0, g1, g2, g3, g4⟩ := (show _ ∧ _ ∧ _ ∧ _ ∧ _ from ⟨(G6.out.later hb7).cell 0 rfl, (G6.out.later hb7).cell 1 rfl, (G6.out.later hb7).cell 2 rfl, (G6.out.later hb7).cell 3 rfl, (G6.out.later hb7).cell 4 rfl⟩))
      | (go_at_call 10; refine (HSB.out _ hb7).mono ?_; rintro _ w8 ⟨rfl, hb8⟩))
    go_ret
    exact ⟨rfl, B6.out.trans ((hb7.trans (hb8.mono hb7.size)).mono B6.out.size)⟩

theorem opsRaw_walk (w : World) (v0 : Value) (w0 : BookAt w v0) (a1 : Option Addr) (len1 cap1 : Nat) (w1 : IsRecs paids Pd.fits w a1 len1 cap1) (r1 : cap1 ≤ 1048576) (r : Rq) (w2 : r.fits) (hh : HasErr w) :
    Calls Tryd.prog 3 #[v0, .slice a1 len1 cap1, r.val] w fun e w' => e = .returned (.bool true) ∧ Below w.heap.size w w' := by
  obtain ⟨zs, hl, hr, hf, hlc, _, _⟩ := recs_list w1
  exact opsRaw_core w v0 w0 a1 len1 cap1 zs hl hr hf (by omega) r hh
end Go.Proofs.YtjnmppdohglcaaaDoor

