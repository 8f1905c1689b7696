/-
  The statement FrameCut by its walk.
-/
import Derived.Test.YtgdhlkfbohjilaaFrameSaid
import Derived.Test.YtgdhlkfbohjilaaStrBytes
import Derived.Test.YtgdhlkfbohjilaaArgNat
import Derived.Test.YtgdhlkfbohjilaaRowArg
namespace Go.Proofs.Ytgdhlkfbohjilaa
open Go.RowKit
set_option linter.unusedVariables false

set_option maxRecDepth 100000 in
set_option maxHeartbeats 2000000 in
theorem frameCut_walk (w : World) (a : Option Addr) (len cap : Nat) (zs : List Int) (h : IsRow .u8 w a len cap zs)
    (at_ : Int) (hat : (Lit.int .u16 at_).wf = true) :
    Calls Try.prog 7 #[.slice a len cap, .int .u16 at_] w fun e w' => e = .returned (.bool true) ∧ Below w.heap.size w w' := by
  obtain ⟨t, rfl, ht⟩ := u16_nat hat
  obtain ⟨xs0, hrd0, hxl0, hw0, hnc, hcm⟩ := row_bytes h
  unfold maxLen at hcm
  obtain ⟨n, hn⟩ : ∃ n, n = min len 500 := ⟨_, rfl⟩
  have hmin := min2_ok (P := Try.prog) len 500 n (len : Int) 500 rfl rfl hn
  have hn1 : n ≤ len := by omega
  have hn5 : n ≤ 500 := by omega
  have hfr := fun W => run_front W a len cap n (by omega)
  have hrd := hrd0.front hn1
  rw [ints_take] at hrd
  obtain ⟨xs, hxs⟩ : ∃ xs, xs = xs0.take n := ⟨_, rfl⟩
  rw [← hxs] at hrd
  have hw : ∀ x ∈ xs, x < 256 := fun x hm => hw0 x (by rw [hxs] at hm; exact List.mem_of_mem_take hm)
  have hxl : xs.length = n := by rw [hxs, List.length_take, hxl0]; omega
  have HR := Lib.hid hrd
  have HW := Lib.hid hw
  have HXL := Lib.hid hxl
  have hml : (fmk xs).length = 6 + n := by rw [fmk_length, hxl]
  have hmw := fmk_lt hw
  obtain ⟨f, hf⟩ : ∃ f, f = fmk xs := ⟨_, rfl⟩
  rw [← hf] at hml hmw
  have HF := Lib.hid hf
  have HML := Lib.hid hml
  have HMW := Lib.hid hmw
  clear h hrd0 hxl0 hw0 hn hrd hxs hw hxl hat hml hmw hf
  go_enter Try.func7, Try.ntmps7
  go_wp2_with fail
  refine (awake_any w).mono ?_
  rintro e w1 ⟨rfl, hb⟩
  have HB := Lib.hid hb
  have HR1 := Lib.hid (HR.out.below hb)
  clear hb
  go_wp2_with fail
  refine (made_any a n cap xs w1 HR1.out HW.out (by omega)).mono ?_
  rintro e w2 ⟨rfl, hb⟩
  rw [← HF.out]
  obtain ⟨c3, w3, hcv, hc3, hm3, hz3, hb3, hr3, hfz3⟩ := run_bytes w2 f HMW.out (by rw [HML.out]; simp only [maxLen]; omega)
  rw [HML.out] at hcv hc3 hr3 hfz3
  have HB3 := Lib.hid (HB.out.trans ((hb.trans (hb3.mono hb.size)).mono HB.out.size))
  obtain ⟨g, hg⟩ : ∃ g, g = w2.heap.size := ⟨_, rfl⟩
  rw [← hg] at hcv hr3
  unfold maxLen at hm3
  obtain ⟨k, hk⟩ : ∃ k, k = t % (6 + n) := ⟨_, rfl⟩
  have hkl : k < 6 + n := by have := Nat.mod_lt t (show 0 < 6 + n by omega); omega
  have hkk : (t : Int) % (6 + (n : Int)) = (k : Int) := by
    rw [show (6 + (n : Int)) = ((6 + n : Nat) : Int) by omega, hk]; rfl
  have hcut := fun W => run_front W (some ⟨g, 0, none⟩) (6 + n) c3 k (by omega)
  have hrk := hr3.front (j := k) (by omega)
  rw [ints_take] at hrk
  obtain ⟨ys, hys⟩ : ∃ ys, ys = f.take k := ⟨_, rfl⟩
  rw [← hys] at hrk
  have hyw : ∀ y ∈ ys, y < 256 := fun y hy => HMW.out y (by rw [hys] at hy; exact List.mem_of_mem_take hy)
  have hone : fone ys = none := by
    rw [hys, HF.out]
    exact fone_cut xs k (by rw [HXL.out]; omega) (by rw [← HF.out, HML.out]; exact hkl)
  have HR3 := Lib.hid hrk
  have HYW := Lib.hid hyw
  have HONE := Lib.hid hone
  clear hb hb3 hz3 hfz3 hr3 hg hk hrk hys hyw hone
  go_wp2_with fail
  refine (one_any _ k c3 ys _ HR3.out HYW.out (by omega) (by omega) _ HONE.out).mono ?_
  rintro e w4 ⟨hb, rfl⟩
  have HB4 := Lib.hid (HB3.out.trans (hb.mono HB3.out.size))
  have HR4 := Lib.hid (HR3.out.below hb)
  clear hb
  go_wp2_with fail
  refine (scan_any _ k c3 ys _ HR4.out HYW.out (by omega) (by omega) (by omega)).mono ?_
  rintro e w5 ⟨rs, v, hsc, rfl, hown, hb⟩
  have HB5 := Lib.hid (HB4.out.trans (hb.mono HB4.out.size))
  obtain rfl := hsc.none_ HONE.out
  obtain ⟨A5, c5, rfl, _⟩ := hown.form
  rw [flat_nil]
  simp only [List.length_nil]
  clear hb hown hsc
  go_wp2
  go_ret
  exact ⟨rfl, HB5.out⟩
end Go.Proofs.Ytgdhlkfbohjilaa
