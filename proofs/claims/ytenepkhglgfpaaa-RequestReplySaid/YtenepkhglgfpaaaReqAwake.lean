/-
  The law's awake by its contract: it is true.
-/
import Derived.Test.YtenepkhglgfpaaaReqBytes
import Derived.Test.YtenepkhglgfpaaaReqReadYes
import Derived.Test.YtenepkhglgfpaaaAppendKeep
namespace Go.Proofs.Ytenepkhglgfpaaa
open Go Go.RowKit
set_option linter.unusedVariables false

/-- The document's example. -/
def rqEx : Rq := ⟨1, 0, 2, 0, 0, 0, 0⟩
theorem rqEx_fits : rqEx.fits := by
  rw [Rq.fits_iff]; unfold rqEx inI; dsimp only; omega
theorem rqEx_may : rqEx.may := by unfold Rq.may legsOk opOk rqEx; decide
theorem rqEx_encs : encs rqEx.nums = [2, 0, 4, 0, 0, 0, 0] := by
  simp [encs, Rq.nums, rqEx, pairN, enc_small]

set_option maxRecDepth 100000 in
theorem awake_ok (w : World) : Calls Try.prog 9 #[] w (BoolRes w true) := by
  have HBY := Lib.hid (fun W => rbytes_any rqEx W rqEx_fits)
  rw [rqEx_encs] at HBY
  have HRD := Lib.hid (fun A n c W (h : Rd .u8 W A n (ints ([2, 0, 4, 0, 0, 0, 0] ++ [9]))) (h1 : n ≤ c) (h2 : c ≤ maxLen) (h3 : n ≤ 200000000000000) => read_seven A n c rqEx [9] W (by rw [rqEx_encs]; exact h) h1 h2 h3 (by simp) rqEx_fits)
  have s1 : ((strN [2, 0, 4, 0, 0, 0, 0]).toList == ([2, 0, 4, 0, 0, 0, 0] : List UInt8)) = true := by rw [ByteArray.toList_eq]; rfl
  have s2 : ((strN [9]).toList == ([9] : List UInt8)) = true := by rw [ByteArray.toList_eq]; rfl
  go_enter Try.func9, Try.ntmps9
  go_wp2_with fail
  refine (HBY.out _).mono ?_
  rintro _ w1 ⟨v, rfl, ho, hb⟩
  have HO := Lib.hid ho
  have HB := Lib.hid hb
  have hz := hb.size
  clear ho hb
  go_wp2_with (at_builtin; refine wpList_append_keep _ rfl (.tmp 8) (.tmp 9) 32 rfl .u8 1 w.heap.size 5 Try.underlying32 info_byte _ 7 _ rfl (HO.out.alloc _) (some ⟨w1.heap.size, 0, none⟩) 1 1 _ rfl (Rd.one _) (by omega) (by omega) (by simp; omega) ?_; intro v3 w3 ho3 hg3 hk3)
  have hb3 : Below w.heap.size w w3 := (HB.out.alloc hz _).grown hg3 (by simp; omega) HO.out.rowLt
  have ho4 : Own 5 .u8 w3 w.heap.size v3 8 (ints ([2, 0, 4, 0, 0, 0, 0] ++ [9])) := by rw [ints_append]; exact ho3
  obtain ⟨A3, c3, rfl, h31, h32, hr3, _⟩ := ho4.form
  obtain ⟨Ab, cb, rfl, _, _, hrb, _⟩ := hk3.form
  have HB3 := Lib.hid hb3
  have HRB := Lib.hid hrb
  clear ho3 hg3 hk3 ho4 hb3 hrb HO HB
  go_wp2_with fail
  refine (HRD.out A3 8 c3 w3 hr3 h31 h32 (by omega)).mono ?_
  rintro _ w4 hres
  rcases hres with ⟨_, u, rfl, hou, hb4⟩ | ⟨hn, _⟩
  · have hou : Own 5 .u8 w4 w3.heap.size u 1 (ints [9]) := hou
    obtain ⟨Au, cu, rfl, _, _, hru, _⟩ := hou.form
    have HB4 := Lib.hid (HB3.out.trans (hb4.mono HB3.out.size))
    have hrb4 : Rd .u8 w4 Ab 7 (ints [2, 0, 4, 0, 0, 0, 0]) := HRB.out.below hb4
    have hz4 := HB4.out.size
    have d1 := fun o => str_of (w4.alloc o) Ab 7 cb [2, 0, 4, 0, 0, 0, 0] (hrb4.alloc o)
    have d2 := fun o => str_of (w4.alloc o) Au 1 cu [9] (hru.alloc o)
    unfold rqEx Rq.val
    dsimp only
    clear hr3 h31 h32 hou hru hb4 hrb4 HRB HB3 HRD HBY
    go_wp2
    go_ret
    exact ⟨rfl, HB4.out.alloc hz4 _⟩
  · exact absurd rqEx_may hn
end Go.Proofs.Ytenepkhglgfpaaa
