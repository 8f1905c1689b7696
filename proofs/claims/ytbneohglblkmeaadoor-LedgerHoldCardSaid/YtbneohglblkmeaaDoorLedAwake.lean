/-
  The document's examples of layer 9 hold.
-/
import Derived.Test.YtbneohglblkmeaaDoorLedHold
import Derived.Test.YtbneohglblkmeaaDoorBook
import Derived.Test.YtbneohglblkmeaaDoorNumber
namespace Go.Proofs.YtbneohglblkmeaaDoor
open Go Go.RowKit
set_option linter.unusedVariables false

theorem number_of (n : Int) (w : World) (hh : HasErr w) : Calls Tryd.prog 14 #[errV n] w fun e w' => e = .returned (.int .i64 n) ∧ Below w.heap.size w w' := by
  unfold errV
  by_cases h : n = 0
  · rw [if_pos h, h]; exact number_nil w
  · rw [if_neg h]; exact number_err n w hh

/-- The accounts of the example, and those behind its first hold. -/
def exZs : List Ac := [⟨0, -50, 0⟩, ⟨0, 0, 0⟩, ⟨0, 0, 0⟩, ⟨1, 0, 0⟩, ⟨1, 0, 0⟩, ⟨1, 0, 0⟩, ⟨2, 0, 0⟩, ⟨2, 0, 0⟩, ⟨2, 0, 0⟩, ⟨0, 50, 0⟩]
def exYs : List Ac := [⟨0, -50, 0⟩, ⟨0, 0, 0⟩, ⟨0, 0, 0⟩, ⟨1, 0, 0⟩, ⟨1, 0, 0⟩, ⟨1, 0, 0⟩, ⟨2, 0, 0⟩, ⟨2, 0, 0⟩, ⟨2, 0, 0⟩, ⟨0, 50, 30⟩]
theorem ex_book : bookTo [0] [50] [] 1 = exZs := by decide
theorem ex_may : mayE 10 9 30 = 0 := by decide
theorem ex_50 : wrap64 (50 - 0) = 50 := by simp only [wrap64]; omega
theorem ex_20 : wrap64 (50 - 30) = 20 := by simp only [wrap64]; omega
theorem ex_30 : wrap64 (0 + 30) = 30 := by simp only [wrap64]; omega
theorem ex_hold : holdE exZs 9 30 = 0 := by
  unfold holdE
  rw [show exZs.length = 10 from rfl, if_pos ex_may, show acOf exZs 9 = ⟨0, 50, 0⟩ from rfl]
  dsimp only
  rw [ex_50]
  decide
theorem ex_held : holdL exZs 9 30 = exYs := by
  unfold holdL heldAs
  rw [if_pos ex_hold, show acOf exZs 9 = ⟨0, 50, 0⟩ from rfl]
  dsimp only
  rw [ex_30]
  rfl
theorem ex_more : holdE exYs 9 30 = 3 := by
  unfold holdE
  rw [show exYs.length = 10 from rfl, if_pos ex_may, show acOf exYs 9 = ⟨0, 50, 30⟩ from rfl]
  dsimp only
  rw [ex_20]
  decide

set_option maxRecDepth 100000 in
set_option maxHeartbeats 4000000 in
theorem awake_ok (w : World) (hh : HasErr w) : Calls Tryd.prog 8 #[] w fun e w' => e = .returned (.bool true) ∧ Below w.heap.size w w' := by
  obtain ⟨W0, hW0⟩ : ∃ W0, W0 = (w.alloc (.cells #[.int .u8 0] 5)).alloc (.cells #[.int .u32 50] 62) := ⟨_, rfl⟩
  have hrd : Rd .u8 W0 (some ⟨w.heap.size, 0, none⟩) 1 (ints [0]) := by
    rw [hW0]
    exact (Rd.one (k := .u8) (w := w) (t := 5) 0).alloc _
  have hrh : Rd .u32 W0 (some ⟨w.heap.size + 1, 0, none⟩) 1 (ints [50]) := by
    rw [hW0]
    have := Rd.one (k := .u32) (w := w.alloc (.cells #[.int .u8 0] 5)) (t := 62) 50
    simpa [ints] using this
  have hcall := accounts_curs (some ⟨w.heap.size, 0, none⟩) (some ⟨w.heap.size + 1, 0, none⟩) none 1 1 1 1 0 0 [0] [50] [] W0 hrd hrh Rd.nil (by simp) (by simp) (by simp) (by omega) (by omega) (by omega)
  have hb0 : Below w.heap.size w W0 := by rw [hW0]; exact ((Below.refl _ _).alloc (Nat.le_refl _) _).alloc (by simp) _
  have HB0 := Lib.hid hb0
  have HC := Lib.hid hcall
  rw [hW0] at HC HB0
  have HH := Lib.hid hh
  clear hrd hrh hcall hb0 hW0 hh
  go_enter Tryd.func8, Tryd.ntmps8
  go_wp2_with fail
  refine HC.out.mono ?_
  rintro e w1 ⟨v1, zs, k, rfl, ho, hk8, hk, hbk, ⟨_, hkl, hzs⟩, hb1⟩
  obtain rfl : k = 1 := by omega
  rw [ex_book] at hzs
  subst hzs
  obtain ⟨g, cap, hv1, hg1, hg2, hnc, hcm⟩ := ho.open_ (by decide)
  rw [show exZs.length = 10 from rfl] at hv1 hnc
  subst hv1
  have hq := hold_any (some ⟨g, 0, none⟩) 10 cap exZs 9 30 w1 rfl ho.rd (by omega) (by intro h; cases h)
  rw [ex_hold, ex_held] at hq
  have HQ := Lib.hid hq
  have HB1 := Lib.hid (HB0.out.trans (hb1.mono HB0.out.size))
  clear ho hbk hb1 hnc hcm hg1 hg2 hk hk8 hkl hq
  go_wp2_with fail
  refine HQ.out.mono ?_
  rintro e w2 ⟨v2, rfl, ho2, hb2⟩
  obtain ⟨g2, cap2, hv2, hg21, hg22, hnc2, hcm2⟩ := ho2.open_ (by decide)
  rw [show exYs.length = 10 from rfl] at hv2 hnc2
  subst hv2
  rw [show errV 0 = .nilIface from rfl]
  have hq2 := hold_any (some ⟨g2, 0, none⟩) 10 cap2 exYs 9 30 w2 rfl ho2.rd (by omega) (by intro h; cases h)
  rw [ex_more] at hq2
  have HQ2 := Lib.hid hq2
  have HO2 := Lib.hid ho2
  have HB2 := Lib.hid (HB1.out.trans (hb2.mono HB1.out.size))
  clear ho2 hb2 hnc2 hcm2 hg21 hg22 hq2 HQ
  go_wp2_with fail
  refine HQ2.out.mono ?_
  rintro e w3 ⟨v3, rfl, ho3, hb3⟩
  have HB3 := Lib.hid (HB2.out.trans (hb3.mono HB2.out.size))
  obtain ⟨_, _, x2⟩ := (HO2.out.below hb3).at_ (j := 9) (a := ⟨0, 50, 30⟩) rfl
  dsimp only at x2
  have HN := Lib.hid (number_of 3 w3 (HH.out.below HB3.out))
  clear ho3 hb3 HQ2 HO2
  go_wp2_with (first | (go_at_call 14; refine HN.out.mono ?_; rintro e w4 ⟨rfl, hb4⟩))
  go_ret
  exact ⟨rfl, HB3.out.trans (hb4.mono HB3.out.size)⟩
end Go.Proofs.YtbneohglblkmeaaDoor
