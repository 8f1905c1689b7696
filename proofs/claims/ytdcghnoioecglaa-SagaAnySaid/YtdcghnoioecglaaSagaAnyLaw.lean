/-
  The statement SagaAny by its walk, of what saga answers.
-/
import Derived.Test.YtdcghnoioecglaaSagaAwake
import Derived.BigQuiet
import Derived.BigRegion
import Derived.Deep.QuietTactic
import Derived.Deep.RegionWith
import Derived.Deep.CutRange
namespace Go.Proofs.Ytdcghnoioecglaa
open Go Go.RowKit
set_option linter.unusedVariables false

set_option maxRecDepth 100000 in
set_option maxHeartbeats 2000000 in
theorem sagaAny_of (H : SagaFns) (w : World) (s : Sg) (ok : Bool) (y' : Int) (hy1 : -128 ≤ y') (hy2 : y' < 128) :
    Calls Try.prog 4 #[s.val, .bool ok, .int .i8 y'] w fun e w' => e = .returned (.bool true) ∧ Below w.heap.size w w' := by
  have HA := Lib.hid (sawake_ok H)
  have HLG := Lib.hid (H.leg s ok)
  have HLW := Lib.hid (lawleg_any s ok)
  have HTU := Lib.hid (H.turn s y')
  have HEN := Lib.hid (H.end_ s)
  unfold SgRes at HLG HLW HTU HEN
  obtain ⟨v, hv⟩ : ∃ v, legS s ok = v := ⟨_, rfl⟩
  rw [hv] at HLG HLW
  clear hv H
  obtain ⟨⟨k, o, a, b, m, l, u⟩, p, e, t, y⟩ := s
  obtain ⟨⟨vk, vo, va, vb, vm, vl, vu⟩, vp, ve, vt, vy⟩ := v
  have hwy : wrap64 y' = y' := wr1 (by omega) (by omega)
  unfold Sg.val at HLG HLW HTU HEN ⊢
  unfold turnS at HTU
  unfold endS at HEN
  dsimp only at HLG HLW HTU HEN ⊢
  have HS := Lib.hid (Sg11.new w 30 k o a b m l u p e t y)
  have HB := Lib.hid ((Below.refl w.heap.size w).alloc (Nat.le_refl _) (.cells #[.int .i64 k, .int .i64 o, .int .i64 a, .int .i64 b, .int .i64 m, .int .i64 l, .int .i64 u, .int .i64 p, .int .i64 e, .int .i64 t, .int .i64 y] 30))
  go_enter Try.func4, Try.ntmps4
  go_wp2_with fail
  refine (HA.out _).mono ?_
  rintro _ w1 ⟨rfl, hb1⟩
  have HS1 := Lib.hid (HS.out.below hb1 (by simp))
  have HB1 := Lib.hid (HB.out.trans (hb1.mono HB.out.size))
  have hz1 : w.heap.size < w1.heap.size := HS1.out.lt
  obtain ⟨g, hg⟩ : ∃ g, w.heap.size = g := ⟨_, rfl⟩
  rw [hg] at HS1 hz1
  (try simp only [hg])
  clear HS HB hb1
  go_upto_region 3 with fail
  go_cut [7, 8] from 7 to 12 (fun x7 x8 wx => ∃ g7 g8, x7 = .pointer (some ⟨g7, 0, none⟩) ∧ x8 = .pointer (some ⟨g8, 0, none⟩) ∧ g < g7 ∧ g < g8 ∧ g7 ≠ g8 ∧ Sg11 wx g 30 k o a b m l u p e t y ∧ Sg11 wx g7 30 k o a b m l u p e t y ∧ Sg11 wx g8 30 k o a b m l u p e t y ∧ Below g w wx)
  case first =>
    obtain ⟨x0, x1, x2, x3, x4, x5, x6, x7, x8, x9, x10⟩ := HS1.out.cells
    go_region
    all_goals go_wp2
    all_goals go_meet
    all_goals (
      have hx1 := ((HS1.out.alloc (.cells #[.int .i64 k, .int .i64 o, .int .i64 a, .int .i64 b, .int .i64 m, .int .i64 l, .int .i64 u, .int .i64 p, .int .i64 e, .int .i64 t, .int .i64 y] 30) hz1).alloc (.cells #[.int .i64 k, .int .i64 o, .int .i64 a, .int .i64 b, .int .i64 m, .int .i64 l, .int .i64 u, .int .i64 p, .int .i64 e, .int .i64 t, .int .i64 y] 30) (by simp; omega))
      have hx2 := (Sg11.new w1 30 k o a b m l u p e t y).alloc (.cells #[.int .i64 k, .int .i64 o, .int .i64 a, .int .i64 b, .int .i64 m, .int .i64 l, .int .i64 u, .int .i64 p, .int .i64 e, .int .i64 t, .int .i64 y] 30) (by simp)
      have hx3 := Sg11.new (w1.alloc (.cells #[.int .i64 k, .int .i64 o, .int .i64 a, .int .i64 b, .int .i64 m, .int .i64 l, .int .i64 u, .int .i64 p, .int .i64 e, .int .i64 t, .int .i64 y] 30)) 30 k o a b m l u p e t y
      have hx4 := (HB1.out.alloc HB1.out.size (.cells #[.int .i64 k, .int .i64 o, .int .i64 a, .int .i64 b, .int .i64 m, .int .i64 l, .int .i64 u, .int .i64 p, .int .i64 e, .int .i64 t, .int .i64 y] 30)).alloc (by simp; have := HB1.out.size; omega) (.cells #[.int .i64 k, .int .i64 o, .int .i64 a, .int .i64 b, .int .i64 m, .int .i64 l, .int .i64 u, .int .i64 p, .int .i64 e, .int .i64 t, .int .i64 y] 30)
      rw [alloc_size] at hx3
      rw [hg] at hx4
      first
        | exact ⟨_, _, rfl, rfl, hz1, by omega, by omega, hx1, hx2, hx3, hx4⟩
        | exact ⟨_, _, rfl, rfl, by omega, hz1, by omega, hx1, hx3, hx2, hx4⟩
        | exact ⟨_, _, rfl, rfl, hz1, by omega, by omega, hx1.drew, hx2.drew, hx3.drew, hx4.drew⟩
        | exact ⟨_, _, rfl, rfl, by omega, hz1, by omega, hx1.drew, hx3.drew, hx2.drew, hx4.drew⟩)
  case rest =>
    obtain ⟨g7, g8, rfl, rfl, hg7, hg8, hg78, hs, ht, he, hb⟩ := hcut
    clear HS1 HB1 hz1
    have q87 : ¬ g8 = g7 := fun h => hg78 h.symm
    have qs7 : ¬ g = g7 := by omega
    have qs8 : ¬ g = g8 := by omega
    have HX := Lib.hid hs
    have HT := Lib.hid ht
    have HE := Lib.hid he
    have HB := Lib.hid hb
    clear hs ht he hb
    by_cases hp : p = 0
    · rw [if_pos hp] at HTU
      dsimp only at HTU
      have q1 := eqT hp
      have HT2 := Lib.hid (((HT.out.set7 1).set10 y').setOther hg78.symm 7 2)
      have HE2 := Lib.hid (((HE.out.setOther hg78 7 1).setOther hg78 10 y').set7 2)
      have HX2 := Lib.hid (((HX.out.setOther (Ne.symm qs7) 7 1).setOther (Ne.symm qs7) 10 y').setOther (Ne.symm qs8) 7 2)
      have HB2 := Lib.hid (((HB.out.setCell (p := ⟨g7, 7, none⟩) (Nat.le_of_lt hg7) (.int .i64 1)).setCell (p := ⟨g7, 10, none⟩) (Nat.le_of_lt hg7) (.int .i64 y')).setCell (p := ⟨g8, 7, none⟩) (Nat.le_of_lt hg8) (.int .i64 2))
      obtain ⟨x0, x1, x2, x3, x4, x5, x6, x7, x8, x9, x10⟩ := HX.out.cells
      obtain ⟨y0, y1, y2, y3, y4, y5, y6, y7, y8, y9, y10⟩ := HT.out.cells
      obtain ⟨z0, z1, z2, z3, z4, z5, z6, z7, z8, z9, z10⟩ := HE.out.cells
      obtain ⟨f0, f1, f2, f3, f4, f5, f6, f7, f8, f9, f10⟩ := HT.out.loose
      obtain ⟨e0, e1, e2, e3, e4, e5, e6, e7, e8, e9, e10⟩ := HE.out.loose
      clear hp
      go_wp2
      clear x0 x1 x2 x3 x4 x5 x6 x7 x8 x9 x10 y0 y1 y2 y3 y4 y5 y6 y7 y8 y9 y10 z0 z1 z2 z3 z4 z5 z6 z7 z8 z9 z10 f0 f1 f2 f3 f4 f5 f6 f7 f8 f9 f10 e0 e1 e2 e3 e4 e5 e6 e7 e8 e9 e10 HX HT HE HB hg7 hg8 q87 qs7 qs8 hg78 hy1 hy2
      generalize (((wc.setCell ⟨g7, 7, none⟩ (.int .i64 1)).setCell ⟨g7, 10, none⟩ (.int .i64 y')).setCell ⟨g8, 7, none⟩ (.int .i64 2)) = w2 at HT2 HE2 HX2 HB2 ⊢
      obtain ⟨x0, x1, x2, x3, x4, x5, x6, x7, x8, x9, x10⟩ := HX2.out.after HX2.out.lt
      obtain ⟨y0, y1, y2, y3, y4, y5, y6, y7, y8, y9, y10⟩ := HT2.out.after HT2.out.lt
      obtain ⟨z0, z1, z2, z3, z4, z5, z6, z7, z8, z9, z10⟩ := HE2.out.after HE2.out.lt
      refine wp_region_after (by kernel_rfl) (by kernel_rfl) ?_
      repeat (go_big_quiet_step (first
        | (go_at_call 10; exact after_call _ (HLG.out _))
        | (go_at_call 11; exact after_call _ (HLW.out _))
        | (go_at_call 12; exact after_call _ (HTU.out _))
        | (go_at_call 13; exact after_call _ (HEN.out _))))
      refine wpQuiet_nil ?_
      intro _ hw'
      obtain ⟨q, rfl⟩ := hw'
      go_wp2
      go_ret
      rw [hg]
      exact ⟨rfl, HB2.out.trans (q.below.mono (by have := HB2.out.size; omega))⟩
    · rw [if_neg hp] at HTU
      (try dsimp only at HTU)
      have q1 := eqF hp
      have HT2 := Lib.hid (HT.out.setOther hg78.symm 7 2)
      have HE2 := Lib.hid (HE.out.set7 2)
      have HX2 := Lib.hid (HX.out.setOther (Ne.symm qs8) 7 2)
      have HB2 := Lib.hid (HB.out.setCell (p := ⟨g8, 7, none⟩) (Nat.le_of_lt hg8) (.int .i64 2))
      obtain ⟨x0, x1, x2, x3, x4, x5, x6, x7, x8, x9, x10⟩ := HX.out.cells
      obtain ⟨y0, y1, y2, y3, y4, y5, y6, y7, y8, y9, y10⟩ := HT.out.cells
      obtain ⟨z0, z1, z2, z3, z4, z5, z6, z7, z8, z9, z10⟩ := HE.out.cells
      obtain ⟨f0, f1, f2, f3, f4, f5, f6, f7, f8, f9, f10⟩ := HT.out.loose
      obtain ⟨e0, e1, e2, e3, e4, e5, e6, e7, e8, e9, e10⟩ := HE.out.loose
      clear hp
      go_wp2
      clear x0 x1 x2 x3 x4 x5 x6 x7 x8 x9 x10 y0 y1 y2 y3 y4 y5 y6 y7 y8 y9 y10 z0 z1 z2 z3 z4 z5 z6 z7 z8 z9 z10 f0 f1 f2 f3 f4 f5 f6 f7 f8 f9 f10 e0 e1 e2 e3 e4 e5 e6 e7 e8 e9 e10 HX HT HE HB hg7 hg8 q87 qs7 qs8 hg78 hy1 hy2
      generalize (wc.setCell ⟨g8, 7, none⟩ (.int .i64 2)) = w2 at HT2 HE2 HX2 HB2 ⊢
      obtain ⟨x0, x1, x2, x3, x4, x5, x6, x7, x8, x9, x10⟩ := HX2.out.after HX2.out.lt
      obtain ⟨y0, y1, y2, y3, y4, y5, y6, y7, y8, y9, y10⟩ := HT2.out.after HT2.out.lt
      obtain ⟨z0, z1, z2, z3, z4, z5, z6, z7, z8, z9, z10⟩ := HE2.out.after HE2.out.lt
      refine wp_region_after (by kernel_rfl) (by kernel_rfl) ?_
      repeat (go_big_quiet_step (first
        | (go_at_call 10; exact after_call _ (HLG.out _))
        | (go_at_call 11; exact after_call _ (HLW.out _))
        | (go_at_call 12; exact after_call _ (HTU.out _))
        | (go_at_call 13; exact after_call _ (HEN.out _))))
      refine wpQuiet_nil ?_
      intro _ hw'
      obtain ⟨q, rfl⟩ := hw'
      go_wp2
      go_ret
      rw [hg]
      exact ⟨rfl, HB2.out.trans (q.below.mono (by have := HB2.out.size; omega))⟩
end Go.Proofs.Ytdcghnoioecglaa
