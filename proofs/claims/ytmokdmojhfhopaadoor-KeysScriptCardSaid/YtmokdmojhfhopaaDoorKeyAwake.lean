/-
  The document's examples of layer 11 hold.
-/
import Derived.Test.YtmokdmojhfhopaaDoorKeyAsk
import Derived.Test.YtmokdmojhfhopaaDoorKeyPut
import Derived.Test.YtmokdmojhfhopaaDoorKeyTell
namespace Go.Proofs.YtmokdmojhfhopaaDoor
open Go Go.RowKit
set_option linter.unusedVariables false

/-- The request of the example, and what is known of it. -/
def exR : Rq := ⟨3, 0, 0, 0, 0, 0, 0⟩
def exK : List Kn := [⟨exR, 0, 0, false⟩]
def exT : List Kn := [⟨exR, 0, 9, true⟩]
theorem exk_put : putE [] exR = 0 ∧ putL [] exR = exK := by decide
theorem exk_ask : askR exK exR = (10, 0, true) := by decide
theorem exk_tell : tellE exK 3 = 0 ∧ tellL exK 3 0 9 = exT := by decide
theorem exk_told : askR exT exR = (0, 9, true) := by decide

set_option maxRecDepth 100000 in
set_option maxHeartbeats 1000000 in
theorem kawake_ok (w : World) : Calls Tryd.prog 7 #[] w (BoolRes w true) := by
  have HP : Hid (∀ W, Calls Tryd.prog 12 #[.slice none 0 0, .agg #[.int .i64 3, .int .i64 0, .int .i64 0, .int .i64 0, .int .i64 0, .int .i64 0, .int .i64 0]] W (KeyRes 0 exK W)) := Lib.hid (fun W => by
    have h := kput_any none 0 0 [] exR W rfl RdS.nil (by omega) (fun _ => ⟨rfl, rfl⟩)
    rw [exk_put.1, exk_put.2] at h
    exact h)
  have HA : Hid (∀ W A cap, RdS known W A exK → Calls Tryd.prog 9 #[.slice A 1 cap, .agg #[.int .i64 3, .int .i64 0, .int .i64 0, .int .i64 0, .int .i64 0, .int .i64 0, .int .i64 0]] W (AskTold W (10, 0, true))) := Lib.hid (fun W A cap hr => by
    have h := kask_any A 1 cap exK exR W rfl hr (by omega)
    rw [exk_ask] at h
    exact h)
  have HT : Hid (∀ W A cap, RdS known W A exK → (A = none → 1 = 0 ∧ cap = 0) → Calls Tryd.prog 11 #[.slice A 1 cap, .int .i64 3, .agg #[.int .i64 0, .int .i64 9]] W (KeyRes 0 exT W)) := Lib.hid (fun W A cap hr hnil => by
    have h := ktell_any A 1 cap exK 3 0 9 W rfl hr (by omega) hnil
    rw [exk_tell.1, exk_tell.2] at h
    exact h)
  have HA2 : Hid (∀ W A cap, RdS known W A exT → Calls Tryd.prog 9 #[.slice A 1 cap, .agg #[.int .i64 3, .int .i64 0, .int .i64 0, .int .i64 0, .int .i64 0, .int .i64 0, .int .i64 0]] W (AskTold W (0, 9, true))) := Lib.hid (fun W A cap hr => by
    have h := kask_any A 1 cap exT exR W rfl hr (by omega)
    rw [exk_told] at h
    exact h)
  have HB0 := Lib.hid ((Below.refl w.heap.size w).alloc (Nat.le_refl _) (.cells #[.int .i64 3, .int .i64 0, .int .i64 0, .int .i64 0, .int .i64 0, .int .i64 0, .int .i64 0] 33))
  have HZ := Lib.hid (Rq7.new w 33 3 0 0 0 0 0 0)
  go_enter Tryd.func7, Tryd.ntmps7
  go_wp2_with fail
  refine (HP.out _).mono ?_
  rintro _ w1 ⟨v1, rfl, ho1, hb1⟩
  rw [show errV 0 = .nilIface from rfl]
  obtain ⟨A1, c1, rfl, hr1, _, _, hn1⟩ := ho1.form
  rw [show exK.length = 1 from rfl] at hn1 ⊢
  have hz1 : w.heap.size < w1.heap.size := by have := hb1.size; simp at this; omega
  have HZ1 := Lib.hid (HZ.out.below hb1 (by simp))
  have HB1 := Lib.hid (HB0.out.trans (hb1.mono (by simp)))
  have HR1 := Lib.hid hr1
  have HN1 := Lib.hid hn1
  obtain ⟨z0, z1, z2, z3, z4, z5, z6⟩ := HZ1.out.cells
  clear ho1 hb1 hr1 hn1 HP HZ HB0
  go_wp2_with fail
  refine (HA.out _ _ _ HR1.out).mono ?_
  rintro _ w2 ⟨rfl, hb2⟩
  dsimp only
  have hz2 : w1.heap.size ≤ w2.heap.size := hb2.size
  have HR2 := Lib.hid (HR1.out.below hb2)
  have HZ2 := Lib.hid (HZ1.out.below hb2 hz1)
  have HB2 := Lib.hid (HB1.out.trans (hb2.mono HB1.out.size))
  have HY2 := Lib.hid (Rq2.new w2 37 10 0)
  clear hb2 HA z0 z1 z2 z3 z4 z5 z6
  go_wp2_with fail
  refine (HT.out _ _ _ (HR2.out.alloc _) HN1.out).mono ?_
  rintro _ w3 ⟨v3, rfl, ho3, hb3⟩
  rw [show errV 0 = .nilIface from rfl]
  obtain ⟨A3, c3, rfl, hr3, _, _, hn3⟩ := ho3.form
  rw [show exT.length = 1 from rfl] at hn3 ⊢
  have hz3 : w2.heap.size < w3.heap.size := by have := hb3.size; simp at this; omega
  have HZ3 := Lib.hid ((HZ2.out.alloc _ (by omega)).below hb3 (by simp; omega))
  have HY3 := Lib.hid (HY2.out.below hb3 (by simp))
  have HB3 := Lib.hid ((HB2.out.alloc (by omega) _).trans (hb3.mono (by simp; omega)))
  have HR3 := Lib.hid hr3
  obtain ⟨z0, z1, z2, z3, z4, z5, z6⟩ := HZ3.out.cells
  clear ho3 hb3 hr3 hn3 HT
  go_wp2_with fail
  refine (HA2.out _ _ _ HR3.out).mono ?_
  rintro _ w4 ⟨rfl, hb4⟩
  dsimp only
  have hz4 : w3.heap.size ≤ w4.heap.size := hb4.size
  have hz24 : w2.heap.size < w4.heap.size := by omega
  have HY4 := Lib.hid (HY3.out.below hb4 hz3)
  have HB4 := Lib.hid (HB3.out.trans (hb4.mono HB3.out.size))
  obtain ⟨y0, y1⟩ := HY4.out.cells
  clear hb4 HA2 z0 z1 z2 z3 z4 z5 z6
  go_wp2
  go_ret
  exact ⟨rfl, HB4.out.alloc (by omega) _⟩
end Go.Proofs.YtmokdmojhfhopaaDoor
