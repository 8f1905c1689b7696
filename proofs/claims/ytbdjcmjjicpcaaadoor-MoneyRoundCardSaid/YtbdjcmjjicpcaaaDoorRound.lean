/-
  The statement MoneyRound by its walk: of every int and two uint8 it returns true.
-/
import Derived.Test.YtbdjcmjjicpcaaaDoorRates
import Derived.Test.YtbdjcmjjicpcaaaDoorConv
import Derived.OpenShut
import Derived.Lib.Hide
namespace Go.Proofs.YtbdjcmjjicpcaaaDoor
open Go.RowKit
set_option linter.unusedVariables false

theorem conv_is (n p q a c : Int) (w : World) (h1 : 1 ≤ n) (h2 : n ≤ 1099511627776) (h3 : 1 ≤ p) (h4 : p ≤ 1024) (h5 : 1 ≤ q) (h6 : q ≤ 1024) (h9 : n * p / q ≤ 1099511627776) (ha : a = n * p / q) (hc : c = n * p % q) :
    Calls Tryd.prog 15 #[.int .i64 n, .agg #[.int .i64 p, .int .i64 q]] w fun e w' => e = .returned (.tuple #[.int .i64 a, .int .i64 c, .nilIface]) ∧ Below w.heap.size w w' := by
  subst ha hc
  obtain ⟨h7, h8⟩ := mul_bounds n p h1 h2 h3 h4
  exact conv_ok n p q w h1 h2 h3 h4 h5 h6 h7 h8 h9
/-- Where Convert tells an error: one of two. -/
theorem conv_err (n p q : Int) (w : World) (h3 : 1 ≤ p) (h4 : p ≤ 1024) (h5 : 1 ≤ q) (h6 : q ≤ 1024) (h : ¬ (1 ≤ n ∧ n ≤ 1099511627776 ∧ n * p / q ≤ 1099511627776)) :
    ∃ m : Int, (1 ≤ n → n ≤ 1099511627776 → m = 4) ∧ Calls Tryd.prog 15 #[.int .i64 n, .agg #[.int .i64 p, .int .i64 q]] w fun e w' => e = .returned (.tuple #[.int .i64 0, .int .i64 0, eno m]) ∧ Below w.heap.size w w' := by
  by_cases h1 : 1 ≤ n ∧ n ≤ 1099511627776
  · obtain ⟨h1, h2⟩ := h1
    obtain ⟨h7, h8⟩ := mul_bounds n p h1 h2 h3 h4
    exact ⟨4, fun _ _ => rfl, conv_over n p q w h1 h2 h3 h4 h5 h6 h7 h8 (by omega)⟩
  · exact ⟨13, fun a b => absurd ⟨a, b⟩ h1, conv_bad n p q w (by omega)⟩

/-- The cells of the rates, in the block that was made last. -/
theorem rates_cell (w : World) (j : Nat) (v : Value) (h : ratesC[j]? = some v) : (w.alloc (.cells ratesC 40)).cell? ⟨w.heap.size, j, none⟩ = some v := by
  rw [cell_of_row _ w.heap.size j ratesC 40 (0, 0) (heap_alloc_new w _)]; exact h

set_option maxHeartbeats 4000000 in
theorem round_at (n i k : Int) (x y : Nat) (p q p' q' : Int) (w : World) (hh : HasErr w) (hi : 0 ≤ i) (hi2 : i ≤ 255) (hk : 0 ≤ k) (hk2 : k ≤ 255) (hx : i % 3 = x) (hy : k % 3 = y) (hx2 : x ≤ 2) (hy2 : y ≤ 2)
    (hp : ratesC[x * 6 + y * 2]? = some (.int .i64 p)) (hq : ratesC[x * 6 + y * 2 + 1]? = some (.int .i64 q)) (hp' : ratesC[y * 6 + x * 2]? = some (.int .i64 p')) (hq' : ratesC[y * 6 + x * 2 + 1]? = some (.int .i64 q'))
    (b1 : 1 ≤ p) (b2 : p ≤ 1024) (b3 : 1 ≤ q) (b4 : q ≤ 1024) (b5 : 1 ≤ p') (b6 : p' ≤ 1024) (b7 : 1 ≤ q') (b8 : q' ≤ 1024)
    (key : 1 ≤ n → n * p / q * p' / q' ≤ n) (key2 : x = y → n * p / q = n) :
    Calls Tryd.prog 6 #[.int .i64 n, .int .u8 i, .int .u8 k] w fun e w' => e = .returned (.bool true) ∧ Below w.heap.size w w' := by
  have KP := Lib.hid hp
  have KQ := Lib.hid hq
  have KP' := Lib.hid hp'
  have KQ' := Lib.hid hq'
  have K1 := Lib.hid key
  have K2 := Lib.hid key2
  clear hp hq hp' hq' key key2
  go_enter Tryd.func6, Tryd.ntmps6
  go_wp2_with fail
  refine (awake_ok _ hh).mono ?_
  rintro e w1 ⟨rfl, hb⟩
  go_wp2_with fail
  refine (rates_ret _).mono ?_
  rintro e w2 ⟨rfl, rfl⟩
  have hc1 := rates_cell (w1.alloc (.cells ratesC 40)) _ _ KP.out
  have hc2 := rates_cell (w1.alloc (.cells ratesC 40)) _ _ KQ.out
  simp only [World.size_alloc] at hc1 hc2
  go_wp2_with (first | (refine wpList_store_new rfl 40 (.tmp 7) (.tmp 18) rfl _ ratesC 40 (by simp [Act.eval]) rfl info40 rfl (by kernel_rfl) ?_))
  have hh2 : HasErr ((w1.alloc (.cells ratesC 40)).alloc (.cells ratesC 40)) := (hh.below hb).below (((Below.refl _ _).alloc (Nat.le_refl _) _).alloc (by simp) _)
  have hbz : Below w.heap.size w ((w1.alloc (.cells ratesC 40)).alloc (.cells ratesC 40)) := (hb.alloc hb.size _).alloc (by have := hb.size; simp; omega) _
  by_cases hok : 1 ≤ n ∧ n ≤ 1099511627776 ∧ n * p / q ≤ 1099511627776
  · obtain ⟨a, ha⟩ : ∃ a, a = n * p / q := ⟨_, rfl⟩
    obtain ⟨c, hc⟩ : ∃ c, c = n * p % q := ⟨_, rfl⟩
    obtain ⟨n1, n2, n3⟩ := hok
    refine (conv_is n p q a c _ n1 n2 b1 b2 b3 b4 n3 ha hc).mono ?_
    rintro e w3 ⟨rfl, hb3⟩
    have a0 : 0 ≤ a := by rw [ha]; exact (div_facts _ q (mul_bounds n p n1 n2 b1 b2).1 b3).2.2.2.2.2
    have a9 : a ≤ 1099511627776 := by rw [ha]; exact n3
    have HA := Lib.hid ha
    clear ha hc n3 hc1 hc2
    have hh3 := hh2.below hb3
    have hb4 := hbz.trans (hb3.mono hbz.size)
    by_cases a1 : 1 ≤ a
    · have hc1 : w3.cell? ⟨w1.heap.size + 1, y * 6 + x * 2, none⟩ = some (.int .i64 p') := by
        rw [hb3.cell (p := ⟨w1.heap.size + 1, y * 6 + x * 2, none⟩) (by simp)]
        have := rates_cell (w1.alloc (.cells ratesC 40)) _ _ KP'.out
        simpa only [World.size_alloc] using this
      have hc2 : w3.cell? ⟨w1.heap.size + 1, y * 6 + x * 2 + 1, none⟩ = some (.int .i64 q') := by
        rw [hb3.cell (p := ⟨w1.heap.size + 1, y * 6 + x * 2 + 1, none⟩) (by simp)]
        have := rates_cell (w1.alloc (.cells ratesC 40)) _ _ KQ'.out
        simpa only [World.size_alloc] using this
      go_wp2_with fail
      by_cases h2 : a * p' / q' ≤ 1099511627776
      · obtain ⟨b, hbb⟩ : ∃ b, b = a * p' / q' := ⟨_, rfl⟩
        obtain ⟨d, hd⟩ : ∃ d, d = a * p' % q' := ⟨_, rfl⟩
        refine (conv_is a p' q' b d _ a1 a9 b5 b6 b7 b8 h2 hbb hd).mono ?_
        rintro e w5 ⟨rfl, hb5⟩
        have hb6 := hb4.trans (hb5.mono hb4.size)
        have bn : b ≤ n := by rw [hbb, HA.out]; exact K1.out n1
        clear hbb hd h2
        by_cases hxy : x = y
        · have han : a = n := HA.out.trans (K2.out hxy)
          clear HA K1 K2
          subst hxy han
          go_wp2
          go_ret
          exact ⟨rfl, hb6⟩
        · have hne : ((x : Int) != (y : Int)) = true := by simpa using (show ¬ (x : Int) = (y : Int) by omega)
          have hne2 : ¬ (x : Int) = (y : Int) := by omega
          clear HA K1 K2
          go_wp2
          go_ret
          exact ⟨rfl, hb6⟩
      · obtain ⟨m, hm, hcall⟩ := conv_err a p' q' w3 b5 b6 b7 b8 (fun h => h2 h.2.2)
        obtain rfl := hm a1 a9
        refine hcall.mono ?_
        rintro e w5 ⟨rfl, hb5⟩
        have hb6 := hb4.trans (hb5.mono hb4.size)
        have hh5 := hh3.below hb5
        clear hm hcall h2
        go_wp2_with (first | (go_at_call 12; refine (number_err _ _ hh5).mono ?_; rintro e w7 ⟨rfl, hb7⟩) | go_in)
        go_ret
        exact ⟨rfl, hb6.trans (hb7.mono hb6.size)⟩
    · obtain rfl : a = 0 := by omega
      go_wp2
      go_ret
      exact ⟨rfl, hb4⟩
  · obtain ⟨m, hm, hcall⟩ := conv_err n p q ((w1.alloc (.cells ratesC 40)).alloc (.cells ratesC 40)) b1 b2 b3 b4 hok
    refine hcall.mono ?_
    rintro e w3 ⟨rfl, hb3⟩
    clear hm hcall hok hc1 hc2
    go_wp2
    go_ret
    exact ⟨rfl, hbz.trans (hb3.mono hbz.size)⟩

theorem moneyRound_walk (w : World) (n : Int) (_ : (Lit.int .i64 n).wf = true) (i : Int) (wi : (Lit.int .u8 i).wf = true) (k : Int) (wk : (Lit.int .u8 k).wf = true) (hh : HasErr w) :
    Calls Tryd.prog 6 #[.int .i64 n, .int .u8 i, .int .u8 k] w fun e w' => e = .returned (.bool true) ∧ Below w.heap.size w w' := by
  obtain ⟨hi, hi2⟩ := bounds_u8 wi
  obtain ⟨hk, hk2⟩ := bounds_u8 wk
  have h9 : (i % 3 = 0 ∨ i % 3 = 1 ∨ i % 3 = 2) ∧ (k % 3 = 0 ∨ k % 3 = 1 ∨ k % 3 = 2) := by omega
  rcases h9 with ⟨hx | hx | hx, hy | hy | hy⟩
  · exact round_at n i k 0 0 1 1 1 1 w hh hi hi2 hk hk2 hx hy (by omega) (by omega) rfl rfl rfl rfl (by omega) (by omega) (by omega) (by omega) (by omega) (by omega) (by omega) (by omega) (fun _ => by omega) (fun _ => by omega)
  · exact round_at n i k 0 1 9 10 11 10 w hh hi hi2 hk hk2 hx hy (by omega) (by omega) rfl rfl rfl rfl (by omega) (by omega) (by omega) (by omega) (by omega) (by omega) (by omega) (by omega) (fun _ => by omega) (fun _ => by omega)
  · exact round_at n i k 0 2 150 1 1 151 w hh hi hi2 hk hk2 hx hy (by omega) (by omega) rfl rfl rfl rfl (by omega) (by omega) (by omega) (by omega) (by omega) (by omega) (by omega) (by omega) (fun _ => by omega) (fun _ => by omega)
  · exact round_at n i k 1 0 11 10 9 10 w hh hi hi2 hk hk2 hx hy (by omega) (by omega) rfl rfl rfl rfl (by omega) (by omega) (by omega) (by omega) (by omega) (by omega) (by omega) (by omega) (fun _ => by omega) (fun _ => by omega)
  · exact round_at n i k 1 1 1 1 1 1 w hh hi hi2 hk hk2 hx hy (by omega) (by omega) rfl rfl rfl rfl (by omega) (by omega) (by omega) (by omega) (by omega) (by omega) (by omega) (by omega) (fun _ => by omega) (fun _ => by omega)
  · exact round_at n i k 1 2 160 1 1 161 w hh hi hi2 hk hk2 hx hy (by omega) (by omega) rfl rfl rfl rfl (by omega) (by omega) (by omega) (by omega) (by omega) (by omega) (by omega) (by omega) (fun _ => by omega) (fun _ => by omega)
  · exact round_at n i k 2 0 1 151 150 1 w hh hi hi2 hk hk2 hx hy (by omega) (by omega) rfl rfl rfl rfl (by omega) (by omega) (by omega) (by omega) (by omega) (by omega) (by omega) (by omega) (fun _ => by omega) (fun _ => by omega)
  · exact round_at n i k 2 1 1 161 160 1 w hh hi hi2 hk hk2 hx hy (by omega) (by omega) rfl rfl rfl rfl (by omega) (by omega) (by omega) (by omega) (by omega) (by omega) (by omega) (by omega) (fun _ => by omega) (fun _ => by omega)
  · exact round_at n i k 2 2 1 1 1 1 w hh hi hi2 hk hk2 hx hy (by omega) (by omega) rfl rfl rfl rfl (by omega) (by omega) (by omega) (by omega) (by omega) (by omega) (by omega) (by omega) (fun _ => by omega) (fun _ => by omega)
end Go.Proofs.YtbdjcmjjicpcaaaDoor
