/-
  The statement MoneyParts by its walk: of every two ints and two uint8 it returns true.
-/
import Derived.Test.YtbdjcmjjicpcaaaDoorRound
namespace Go.Proofs.YtbdjcmjjicpcaaaDoor
open Go.RowKit
set_option linter.unusedVariables false

theorem parts_div (s t q : Int) (hs : 0 ≤ s) (ht : 0 ≤ t) (hq : 1 ≤ q) : s / q + t / q ≤ (s + t) / q ∧ (s + t) / q ≤ s / q + t / q + 1 := by
  have a := div_facts s q hs hq
  have b := div_facts t q ht hq
  have e : (s / q + t / q) * q = s / q * q + t / q * q := Int.add_mul _ _ _
  have f : (s / q + t / q + 2) * q = s / q * q + t / q * q + 2 * q := by rw [Int.add_mul, Int.add_mul]
  constructor
  · exact Int.le_ediv_of_mul_le (by omega) (by omega)
  · have := Int.ediv_lt_of_lt_mul (a := s + t) (b := s / q + t / q + 2) (c := q) (by omega) (by omega)
    omega

set_option maxHeartbeats 4000000 in
theorem parts_at (a b i k : Int) (r : Array Value) (p q : Int) (w : World) (hh : HasErr w) (wa : -9223372036854775808 ≤ a) (wa2 : a ≤ 9223372036854775807) (wb : -9223372036854775808 ≤ b) (wb2 : b ≤ 9223372036854775807) (hi : 0 ≤ i) (hi2 : i ≤ 255) (hk : 0 ≤ k) (hk2 : k ≤ 255)
    (hx1 : ∀ w, (Instr.index 40 (.agg ratesC) (.int .u8 (i % 3))).run Tryd.prog w = .ok (.agg r) w)
    (hx2 : ∀ w, (Instr.index 39 (.agg r) (.int .u8 (k % 3))).run Tryd.prog w = .ok (.agg #[.int .i64 p, .int .i64 q]) w)
    (b1 : 1 ≤ p) (b2 : p ≤ 1024) (b3 : 1 ≤ q) (b4 : q ≤ 1024) :
    Calls Tryd.prog 8 #[.int .i64 a, .int .i64 b, .int .u8 i, .int .u8 k] w fun e w' => e = .returned (.bool true) ∧ Below w.heap.size w w' := by
  go_enter Tryd.func8, Tryd.ntmps8
  go_wp2_with fail
  refine (awake_ok _ hh).mono ?_
  rintro e w1 ⟨rfl, hb⟩
  go_wp2_with fail
  refine (rates_ret _).mono ?_
  rintro e w2 ⟨rfl, rfl⟩
  go_wp2_with fail
  clear hx1 hx2
  have hh2 : HasErr ((w1.alloc (.cells ratesC 40)).alloc (.cells #[.int .i64 p, .int .i64 q] 37)) := (hh.below hb).below (((Below.refl _ _).alloc (Nat.le_refl _) _).alloc (by simp) _)
  have hbz : Below w.heap.size w ((w1.alloc (.cells ratesC 40)).alloc (.cells #[.int .i64 p, .int .i64 q] 37)) := (hb.alloc hb.size _).alloc (by have := hb.size; simp; omega) _
  have hp2 : ((w1.alloc (.cells ratesC 40)).alloc (.cells #[.int .i64 p, .int .i64 q] 37)).cell? ⟨w1.heap.size + 1, 0, none⟩ = some (.int .i64 p) := by simp
  have hq2 : ((w1.alloc (.cells ratesC 40)).alloc (.cells #[.int .i64 p, .int .i64 q] 37)).cell? ⟨w1.heap.size + 1, 1, none⟩ = some (.int .i64 q) := by simp
  have hs2 : w1.heap.size + 1 < ((w1.alloc (.cells ratesC 40)).alloc (.cells #[.int .i64 p, .int .i64 q] 37)).heap.size := by simp
  generalize ((w1.alloc (.cells ratesC 40)).alloc (.cells #[.int .i64 p, .int .i64 q] 37)) = W2 at *
  by_cases hok : 1 ≤ a ∧ a ≤ 1099511627776 ∧ a * p / q ≤ 1099511627776
  · obtain ⟨x, hx⟩ : ∃ x, x = a * p / q := ⟨_, rfl⟩
    obtain ⟨c, hc⟩ : ∃ c, c = a * p % q := ⟨_, rfl⟩
    obtain ⟨n1, n2, n3⟩ := hok
    refine (conv_is a p q x c _ n1 n2 b1 b2 b3 b4 n3 hx hc).mono ?_
    rintro e w3 ⟨rfl, hb3⟩
    have x0 : 0 ≤ x := by rw [hx]; exact (div_facts _ q (mul_bounds a p n1 n2 b1 b2).1 b3).2.2.2.2.2
    have x9 : x ≤ 1099511627776 := by rw [hx]; exact n3
    have HX := Lib.hid hx
    clear hx hc n3
    have hh3 := hh2.below hb3
    have hbz3 := hbz.trans (hb3.mono hbz.size)
    have hp3 : w3.cell? ⟨w1.heap.size + 1, 0, none⟩ = some (.int .i64 p) := by rw [hb3.cell (p := ⟨w1.heap.size + 1, 0, none⟩) hs2]; exact hp2
    have hq3 : w3.cell? ⟨w1.heap.size + 1, 1, none⟩ = some (.int .i64 q) := by rw [hb3.cell (p := ⟨w1.heap.size + 1, 1, none⟩) hs2]; exact hq2
    have hs3 : w1.heap.size + 1 < w3.heap.size := by have := hb3.size; omega
    clear hp2 hq2
    go_wp2_with fail
    by_cases hok2 : 1 ≤ b ∧ b ≤ 1099511627776 ∧ b * p / q ≤ 1099511627776
    · obtain ⟨y, hy⟩ : ∃ y, y = b * p / q := ⟨_, rfl⟩
      obtain ⟨d, hd⟩ : ∃ d, d = b * p % q := ⟨_, rfl⟩
      obtain ⟨m1, m2, m3⟩ := hok2
      refine (conv_is b p q y d _ m1 m2 b1 b2 b3 b4 m3 hy hd).mono ?_
      rintro e w4 ⟨rfl, hb4⟩
      have y0 : 0 ≤ y := by rw [hy]; exact (div_facts _ q (mul_bounds b p m1 m2 b1 b2).1 b3).2.2.2.2.2
      have y9 : y ≤ 1099511627776 := by rw [hy]; exact m3
      have HY := Lib.hid hy
      clear hy hd m3
      have hh4 := hh3.below hb4
      have hbz4 := hbz3.trans (hb4.mono hbz3.size)
      have hp4 : w4.cell? ⟨w1.heap.size + 1, 0, none⟩ = some (.int .i64 p) := by rw [hb4.cell (p := ⟨w1.heap.size + 1, 0, none⟩) hs3]; exact hp3
      have hq4 : w4.cell? ⟨w1.heap.size + 1, 1, none⟩ = some (.int .i64 q) := by rw [hb4.cell (p := ⟨w1.heap.size + 1, 1, none⟩) hs3]; exact hq3
      clear hp3 hq3
      by_cases hab : a + b ≤ 1099511627776
      · have hz := parts_div (a * p) (b * p) q (mul_bounds a p n1 n2 b1 b2).1 (mul_bounds b p m1 m2 b1 b2).1 b3
        rw [← HX.out, ← HY.out, ← Int.add_mul] at hz
        obtain ⟨z, hzz⟩ : ∃ z, z = (a + b) * p / q := ⟨_, rfl⟩
        rw [← hzz] at hz
        obtain ⟨z1, z2⟩ := hz
        have HZ := Lib.hid hzz
        clear hzz HX HY
        go_wp2_with fail
        by_cases hok3 : z ≤ 1099511627776
        · refine (conv_is (a + b) p q z ((a + b) * p % q) _ (by omega) (by omega) b1 b2 b3 b4 (by rw [← HZ.out]; exact hok3) HZ.out rfl).mono ?_
          rintro e w5 ⟨rfl, hb5⟩
          clear HZ
          go_wp2
          go_ret
          exact ⟨rfl, hbz4.trans (hb5.mono hbz4.size)⟩
        · obtain ⟨m, hm, hcall⟩ := conv_err (a + b) p q w4 b1 b2 b3 b4 (fun h => hok3 (by rw [HZ.out]; exact h.2.2))
          obtain rfl := hm (by omega) (by omega)
          refine hcall.mono ?_
          rintro e w5 ⟨rfl, hb5⟩
          have hb6 := hbz4.trans (hb5.mono hbz4.size)
          have hh5 := hh4.below hb5
          have hxy : 1099511627776 ≤ x + y := by omega
          clear hm hcall HZ
          go_wp2_with (first | (go_at_call 12; refine (number_err _ _ hh5).mono ?_; rintro e w7 ⟨rfl, hb7⟩) | go_in)
          go_ret
          exact ⟨rfl, hb6.trans (hb7.mono hb6.size)⟩
      · clear HX HY
        go_wp2
        go_ret
        exact ⟨rfl, hbz4⟩
    · obtain ⟨m, hm, hcall⟩ := conv_err b p q w3 b1 b2 b3 b4 hok2
      refine hcall.mono ?_
      rintro e w4 ⟨rfl, hb4⟩
      clear hm hcall hok2 HX
      go_wp2
      go_ret
      exact ⟨rfl, hbz3.trans (hb4.mono hbz3.size)⟩
  · obtain ⟨m, hm, hcall⟩ := conv_err a p q W2 b1 b2 b3 b4 hok
    refine hcall.mono ?_
    rintro e w3 ⟨rfl, hb3⟩
    clear hm hcall hok
    have hbz3 := hbz.trans (hb3.mono hbz.size)
    have hp3 : w3.cell? ⟨w1.heap.size + 1, 0, none⟩ = some (.int .i64 p) := by rw [hb3.cell (p := ⟨w1.heap.size + 1, 0, none⟩) hs2]; exact hp2
    have hq3 : w3.cell? ⟨w1.heap.size + 1, 1, none⟩ = some (.int .i64 q) := by rw [hb3.cell (p := ⟨w1.heap.size + 1, 1, none⟩) hs2]; exact hq2
    clear hp2 hq2
    go_wp2_with fail
    by_cases hok2 : 1 ≤ b ∧ b ≤ 1099511627776 ∧ b * p / q ≤ 1099511627776
    · obtain ⟨m1, m2, m3⟩ := hok2
      refine (conv_is b p q _ _ _ m1 m2 b1 b2 b3 b4 m3 rfl rfl).mono ?_
      rintro e w4 ⟨rfl, hb4⟩
      go_wp2
      go_ret
      exact ⟨rfl, hbz3.trans (hb4.mono hbz3.size)⟩
    · obtain ⟨m, hm, hcall⟩ := conv_err b p q w3 b1 b2 b3 b4 hok2
      refine hcall.mono ?_
      rintro e w4 ⟨rfl, hb4⟩
      clear hm hcall hok2
      go_wp2
      go_ret
      exact ⟨rfl, hbz3.trans (hb4.mono hbz3.size)⟩

theorem moneyParts_walk (w : World) (a : Int) (va : (Lit.int .i64 a).wf = true) (b : Int) (vb : (Lit.int .i64 b).wf = true) (i : Int) (wi : (Lit.int .u8 i).wf = true) (k : Int) (wk : (Lit.int .u8 k).wf = true) (hh : HasErr w) :
    Calls Tryd.prog 8 #[.int .i64 a, .int .i64 b, .int .u8 i, .int .u8 k] w fun e w' => e = .returned (.bool true) ∧ Below w.heap.size w w' := by
  obtain ⟨hi, hi2⟩ := bounds_u8 wi
  obtain ⟨hk, hk2⟩ := bounds_u8 wk
  obtain ⟨ha, ha2⟩ := bounds_i64 va
  obtain ⟨hb, hb2⟩ := bounds_i64 vb
  have h9 : (i % 3 = 0 ∨ i % 3 = 1 ∨ i % 3 = 2) ∧ (k % 3 = 0 ∨ k % 3 = 1 ∨ k % 3 = 2) := by omega
  rcases h9 with ⟨hx | hx | hx, hy | hy | hy⟩
  · exact parts_at a b i k _ 1 1 w hh ha ha2 hb hb2 hi hi2 hk hk2 (fun w => by rw [hx]; exact ixr0 w) (fun w => by rw [hy]; exact ixr00 w) (by omega) (by omega) (by omega) (by omega)
  · exact parts_at a b i k _ 9 10 w hh ha ha2 hb hb2 hi hi2 hk hk2 (fun w => by rw [hx]; exact ixr0 w) (fun w => by rw [hy]; exact ixr01 w) (by omega) (by omega) (by omega) (by omega)
  · exact parts_at a b i k _ 150 1 w hh ha ha2 hb hb2 hi hi2 hk hk2 (fun w => by rw [hx]; exact ixr0 w) (fun w => by rw [hy]; exact ixr02 w) (by omega) (by omega) (by omega) (by omega)
  · exact parts_at a b i k _ 11 10 w hh ha ha2 hb hb2 hi hi2 hk hk2 (fun w => by rw [hx]; exact ixr1 w) (fun w => by rw [hy]; exact ixr10 w) (by omega) (by omega) (by omega) (by omega)
  · exact parts_at a b i k _ 1 1 w hh ha ha2 hb hb2 hi hi2 hk hk2 (fun w => by rw [hx]; exact ixr1 w) (fun w => by rw [hy]; exact ixr11 w) (by omega) (by omega) (by omega) (by omega)
  · exact parts_at a b i k _ 160 1 w hh ha ha2 hb hb2 hi hi2 hk hk2 (fun w => by rw [hx]; exact ixr1 w) (fun w => by rw [hy]; exact ixr12 w) (by omega) (by omega) (by omega) (by omega)
  · exact parts_at a b i k _ 1 151 w hh ha ha2 hb hb2 hi hi2 hk hk2 (fun w => by rw [hx]; exact ixr2 w) (fun w => by rw [hy]; exact ixr20 w) (by omega) (by omega) (by omega) (by omega)
  · exact parts_at a b i k _ 1 161 w hh ha ha2 hb hb2 hi hi2 hk hk2 (fun w => by rw [hx]; exact ixr2 w) (fun w => by rw [hy]; exact ixr21 w) (by omega) (by omega) (by omega) (by omega)
  · exact parts_at a b i k _ 1 1 w hh ha ha2 hb hb2 hi hi2 hk hk2 (fun w => by rw [hx]; exact ixr2 w) (fun w => by rw [hy]; exact ixr22 w) (by omega) (by omega) (by omega) (by omega)
end Go.Proofs.YtbdjcmjjicpcaaaDoor
