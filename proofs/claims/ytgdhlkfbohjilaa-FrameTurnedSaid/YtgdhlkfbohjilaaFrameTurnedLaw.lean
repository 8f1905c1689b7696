/-
  The statement FrameTurned by its walk.
-/
import Derived.Test.YtgdhlkfbohjilaaFrameSaid
import Derived.Test.YtgdhlkfbohjilaaStrBytes
import Derived.Test.YtgdhlkfbohjilaaArgNat
import Derived.Test.YtgdhlkfbohjilaaRowArg
namespace Go.Proofs.Ytgdhlkfbohjilaa
open Go.RowKit
set_option linter.unusedVariables false

set_option maxRecDepth 100000 in
set_option maxHeartbeats 2000000 in
theorem frameTurned_walk (w : World) (a : Option Addr) (len cap : Nat) (zs : List Int) (h : IsRow .u8 w a len cap zs)
    (at_ : Int) (hat : (Lit.int .u16 at_).wf = true) (by_ : Int) (hby : (Lit.int .u8 by_).wf = true) :
    Calls Try.prog 6 #[.slice a len cap, .int .u16 at_, .int .u8 by_] w fun e w' => e = .returned (.bool true) ∧ Below w.heap.size w w' := by
  obtain ⟨t, rfl, ht⟩ := u16_nat hat
  obtain ⟨b, rfl, hb8⟩ := u8_nat hby
  obtain ⟨xs0, hrd0, hxl0, hw0, hnc, hcm⟩ := row_bytes h
  unfold maxLen at hcm
  obtain ⟨n, hn⟩ : ∃ n, n = min len 500 := ⟨_, rfl⟩
  have hmin := min2_ok (P := Try.prog) len 500 n (len : Int) 500 rfl rfl hn
  have hn1 : n ≤ len := by omega
  have hn5 : n ≤ 500 := by omega
  have hfr := fun W => run_front W a len cap n (by omega)
  have hrd := hrd0.front hn1
  rw [ints_take] at hrd
  obtain ⟨xs, hxs⟩ : ∃ xs, xs = xs0.take n := ⟨_, rfl⟩
  rw [← hxs] at hrd
  have hw : ∀ x ∈ xs, x < 256 := fun x hm => hw0 x (by rw [hxs] at hm; exact List.mem_of_mem_take hm)
  have hxl : xs.length = n := by rw [hxs, List.length_take, hxl0]; omega
  have HR := Lib.hid hrd
  have HW := Lib.hid hw
  have HXL := Lib.hid hxl
  have hml : (fmk xs).length = 6 + n := by rw [fmk_length, hxl]
  have hmw := fmk_lt hw
  obtain ⟨f, hf⟩ : ∃ f, f = fmk xs := ⟨_, rfl⟩
  rw [← hf] at hml hmw
  have HF := Lib.hid hf
  have HML := Lib.hid hml
  have HMW := Lib.hid hmw
  clear h hrd0 hxl0 hw0 hn hrd hxs hw hxl hat hby hml hmw hf
  go_enter Try.func6, Try.ntmps6
  go_wp2_with fail
  refine (awake_any w).mono ?_
  rintro e w1 ⟨rfl, hb⟩
  have HB := Lib.hid hb
  have HR1 := Lib.hid (HR.out.below hb)
  clear hb
  go_wp2_with fail
  refine (made_any a n cap xs w1 HR1.out HW.out (by omega)).mono ?_
  rintro e w2 ⟨rfl, hb⟩
  rw [← HF.out]
  obtain ⟨c3, w3, hcv, hc3, hm3, hz3, hb3, hr3, hfz3⟩ := run_bytes w2 f HMW.out (by rw [HML.out]; simp only [maxLen]; omega)
  rw [HML.out] at hcv hc3 hr3 hfz3
  have HB3 := Lib.hid (HB.out.trans ((hb.trans (hb3.mono hb.size)).mono HB.out.size))
  have HR3 := Lib.hid hr3
  obtain ⟨g, hg⟩ : ∃ g, g = w2.heap.size := ⟨_, rfl⟩
  have hgw : w.heap.size ≤ g := by have h1 := HB.out.size; have h2 := hb.size; omega
  rw [← hg] at hcv hfz3 HR3
  obtain ⟨k, hk⟩ : ∃ k, k = t % (4 + n) := ⟨_, rfl⟩
  have hkl4 : k < 4 + n := by have := Nat.mod_lt t (show 0 < 4 + n by omega); omega
  have hkl : 2 + k < 6 + n := by omega
  have hcell : w3.cell? ⟨g, 2 + k, none⟩ = some (.int .u8 ((f.getD (2 + k) 0 : Nat) : Int)) := by
    obtain ⟨ad, he, hc⟩ := HR3.out.at_ hkl
    injection he with he
    rw [← he, addr_add, ints_getD] at hc
    exact hc
  have hfz := hfz3 (2 + k) hkl
  obtain ⟨x, hx⟩ : ∃ x, x = f.getD (2 + k) 0 := ⟨_, rfl⟩
  have hx8 : x < 256 := by rw [hx]; exact getD_lt HMW.out _
  rw [← hx] at hcell
  have HX := Lib.hid hx
  have hkk : (t : Int) % (6 + (n : Int) - 2) = (k : Int) := by
    rw [show (6 + (n : Int) - 2) = ((4 + n : Nat) : Int) by omega, hk]; rfl
  clear hb hb3 hz3 hfz3 hr3 hx hg hk
  have hxor := u8_xor_nat x b hx8 hb8
  have hr4 := HR3.out.set (2 + k) ((x ^^^ b : Nat) : Int)
  have hb4 : Below w.heap.size w (w3.setCell ⟨g, 2 + k, none⟩ (.int .u8 ((x ^^^ b : Nat) : Int))) := HB3.out.setCell hgw _
  rw [ints_set] at hr4
  obtain ⟨ys, hys⟩ : ∃ ys, ys = f.set (2 + k) (x ^^^ b) := ⟨_, rfl⟩
  rw [← hys] at hr4
  have hyw : ∀ y ∈ ys, y < 256 := by
    intro y hy
    rw [hys] at hy
    rcases List.mem_or_eq_of_mem_set hy with hy | rfl
    · exact HMW.out y hy
    · exact Nat.xor_lt_two_pow (n := 8) hx8 hb8
  have hfk : 2 + k < f.length := by rw [HML.out]; omega
  have hone : fone ys = if b = 0 then some xs else none := by
    by_cases hz : b = 0
    · rw [if_pos hz, hys, hz, Nat.xor_zero, HX.out]
      have e : f.set (2 + k) (f.getD (2 + k) 0) = f := by
        apply List.ext_getElem?
        intro i
        by_cases hi : i = 2 + k
        · subst hi; simp [List.getD, hfk]
        · rw [List.getElem?_set_ne (by omega)]
      have h1 := fone_mk xs [] (by rw [HXL.out]; omega)
      rw [List.append_nil] at h1
      rw [e, HF.out, h1]
    · rw [if_neg hz, hys, HX.out, HF.out]
      exact fone_turned xs HW.out (2 + k) b (by rw [HXL.out]; omega) (by omega) (by rw [← HF.out]; exact hfk) hb8 hz
  have HR4 := Lib.hid hr4
  have HB4 := Lib.hid hb4
  have HYW := Lib.hid hyw
  have HONE := Lib.hid hone
  clear hr4 hb4 hys hyw hone hfk
  unfold maxLen at hm3
  go_wp2_with fail
  refine (one_any _ (6 + n) c3 ys _ HR4.out HYW.out hc3 (by omega) _ HONE.out).mono ?_
  rintro e w5 ⟨hb, hres⟩
  have HB5 := Lib.hid (HB4.out.trans (hb.mono HB4.out.size))
  clear hb
  by_cases hz : b = 0
  · subst hz
    simp only [if_true] at hres
    obtain ⟨A5, c5, rfl, _⟩ := hres
    clear hxor
    go_wp2
    go_ret
    exact ⟨rfl, HB5.out⟩
  · rw [if_neg hz] at hres
    obtain rfl := hres
    have q2 := eqF (show (b : Int) ≠ 0 by omega)
    clear hxor
    go_wp2
    go_ret
    exact ⟨rfl, HB5.out⟩
end Go.Proofs.Ytgdhlkfbohjilaa
