/-
  The document's examples of layer 12 hold.
-/
import Derived.Test.YtenghafnpmlbnaaDoorNumberOf
import Derived.Test.YtenghafnpmlbnaaDoorPayDo
namespace Go.Proofs.YtenghafnpmlbnaaDoor
open Go Go.RowKit
set_option linter.unusedVariables false

theorem ex_e1 : payE ⟨0, 0, 9, 0, 0, 0, 0, 0⟩ 4 9 = 0 := by
  have h : wrap64 (9 - 0) = 9 := by simp only [wrap64]; omega
  unfold payE leftP
  dsimp only
  rw [h]
  decide
theorem ex_r1 : payR ⟨0, 0, 9, 0, 0, 0, 0, 0⟩ 4 9 = ⟨0, 0, 9, 9, 0, 0, 0, 1⟩ := by
  have h : wrap64 (0 + 9) = 9 := by simp only [wrap64]; omega
  unfold payR payP
  dsimp only
  rw [ex_e1, h]
  decide
theorem ex_e2 : payE ⟨0, 0, 9, 9, 0, 0, 0, 1⟩ 6 10 = 6 := by
  have h : wrap64 (wrap64 (9 - 0) - 0) = 9 := by simp only [wrap64]; omega
  unfold payE gaveP
  dsimp only
  rw [h]
  decide
theorem ex_r2 : payR ⟨0, 0, 9, 9, 0, 0, 0, 1⟩ 6 10 = Py.zero := by
  unfold payR
  rw [if_neg (by rw [ex_e2]; decide)]

set_option maxRecDepth 100000 in
set_option maxHeartbeats 1000000 in
theorem pawake_ok (w : World) (hh : HasErr w) : Calls Tryd.prog 9 #[] w fun e w' => e = .returned (.bool true) ∧ Below w.heap.size w w' := by
  have HD := Lib.hid (fun W => do_any ⟨0, 0, 9, 0, 0, 0, 0, 0⟩ 4 9 W)
  have HE := Lib.hid (fun W => do_any ⟨0, 0, 9, 9, 0, 0, 0, 1⟩ 6 10 W)
  rw [ex_e1, ex_r1] at HD
  rw [ex_e2, ex_r2] at HE
  unfold PayRes Py.val errV at HD HE
  unfold Py.zero at HE
  rw [if_pos rfl] at HD
  rw [if_neg (by decide)] at HE
  dsimp only at HD HE
  have HH := Lib.hid hh
  clear hh
  go_enter Tryd.func9, Tryd.ntmps9
  go_wp2_with fail
  refine (HD.out _).mono ?_
  rintro _ w1 ⟨rfl, hb1⟩
  have HB1 := Lib.hid hb1
  clear hb1
  go_wp2_with fail
  refine (HE.out _).mono ?_
  rintro _ w2 ⟨rfl, hb2⟩
  have HB2 := Lib.hid ((HB1.out.alloc HB1.out.size _).trans (hb2.mono (by simp; have := HB1.out.size; omega)))
  have x3 : w2.cell? ⟨w1.heap.size, 3, none⟩ = some (.int .i64 9) := by rw [hb2.cell (by simp)]; simp
  have x7 : w2.cell? ⟨w1.heap.size, 7, none⟩ = some (.int .i64 1) := by rw [hb2.cell (by simp)]; simp
  have hz : w1.heap.size < w2.heap.size := by have := hb2.size; simp at this; omega
  obtain ⟨W3, hW3⟩ : ∃ W3, W3 = w2.alloc (.cells #[.int .i64 0, .int .i64 0, .int .i64 0, .int .i64 0, .int .i64 0, .int .i64 0, .int .i64 0, .int .i64 0] 28) := ⟨_, rfl⟩
  have HB3 := Lib.hid (HB2.out.alloc HB2.out.size (.cells #[.int .i64 0, .int .i64 0, .int .i64 0, .int .i64 0, .int .i64 0, .int .i64 0, .int .i64 0, .int .i64 0] 28))
  rw [← hW3] at HB3
  have HN := Lib.hid (number_of 6 W3 (HH.out.below HB3.out))
  rw [hW3] at HN HB3
  clear hb2 HB1 HB2 HD HE hW3
  go_wp2_with (first | (go_at_call 13; refine HN.out.mono ?_; rintro e w4 ⟨rfl, hb4⟩))
  go_ret
  exact ⟨rfl, HB3.out.trans (hb4.mono HB3.out.size)⟩
end Go.Proofs.YtenghafnpmlbnaaDoor
