/-
  The statement ChartSums by its walk.
-/
import Derived.Test.YtpcpocgagfpbhaaChartOfLaw
import Derived.Test.YtpcpocgagfpbhaaChartSums
import Derived.Test.YtpcpocgagfpbhaaAfter
import Derived.RegionTactic
import Derived.BigRegion
namespace Go.Proofs.Ytpcpocgagfpbhaa
open Go Go.RowKit
set_option linter.unusedVariables false

/-- Two arrays of the same numbers are the same. -/
theorem arr_same_d (d : Nat) (x y z : Int) (W : World) (e : ∀ a : Int, (Op.equalIn d 3 (.int .i64 a) (.int .i64 a)).run Try.prog W = .ok true W) :
    (Op.equalIn (d + 1) 39 (.agg #[.int .i64 x, .int .i64 y, .int .i64 z]) (.agg #[.int .i64 x, .int .i64 y, .int .i64 z])).run Try.prog W = .ok true W := by
  have hs : (sizeOf 3).run Try.prog W = .ok 1 W := by kernel_rfl
  have p0 : (part 3 #[.int .i64 x, .int .i64 y, .int .i64 z] 0).run Try.prog W = .ok (.int .i64 x) W := by kernel_rfl
  have p1 : (part 3 #[.int .i64 x, .int .i64 y, .int .i64 z] 1).run Try.prog W = .ok (.int .i64 y) W := by kernel_rfl
  have p2 : (part 3 #[.int .i64 x, .int .i64 y, .int .i64 z] 2).run Try.prog W = .ok (.int .i64 z) W := by kernel_rfl
  simp only [Op.equalIn, Sem.run_bind, run_underlying Try.underlying39, Result.andThen_ok, hs]
  simp [Std.Legacy.Range.forIn_eq_forIn_range', Std.Legacy.Range.size, List.range', p0, p1, p2, e]
theorem arr_same (x y z : Int) (W : World) : (Op.equalIn 10000 39 (.agg #[.int .i64 x, .int .i64 y, .int .i64 z]) (.agg #[.int .i64 x, .int .i64 y, .int .i64 z])).run Try.prog W = .ok true W :=
  arr_same_d 9999 x y z W fun a => by
    have h := run_equalIn_int (P := Try.prog) W 9998 3 .i64 .i64 a a Try.underlying3
    rw [h]
    simp

set_option maxRecDepth 100000 in
set_option maxHeartbeats 4000000 in
theorem chartSums_walk (w : World) (v : Value) (hv : BookAt w v) (A : Option Addr) (len cap0 : Nat) (hA : IsAccs w A len cap0) :
    Calls Try.prog 5 #[v, .slice A len cap0] w fun e w' => e = .returned (.bool true) ∧ Below w.heap.size w w' := by
  obtain ⟨CA, HA, LA, cl, cc, hl, hc, ll, lc, cs, hs, ls, rfl, _⟩ := hv.form
  obtain ⟨raw, hrl, hraw, _, hlc, hcm0, _⟩ := accs_list hA
  have hlen : len ≤ 9223372036854775807 := by unfold maxLen at hcm0; omega
  have HV := Lib.hid hv
  have HRL := Lib.hid hrl
  have HRAW := Lib.hid hraw
  have heq0 := arr_same 0 0 0
  clear hv hA hrl hraw hlc hcm0
  go_enter Try.func5, Try.ntmps5
  go_wp2_with fail
  have hb0 := (Below.refl w.heap.size w).alloc (Nat.le_refl _) (.cells #[.slice CA cl cc, .slice HA hl hc, .slice LA ll lc] 25)
  refine (awake_ok _).mono ?_
  rintro e w1 ⟨rfl, hb1⟩
  have k0 : w1.cell? ⟨w.heap.size, 0, none⟩ = some (.slice CA cl cc) := by rw [hb1.cell (by simp)]; simp
  have k1 : w1.cell? ⟨w.heap.size, 1, none⟩ = some (.slice HA hl hc) := by rw [hb1.cell (by simp)]; simp
  have k2 : w1.cell? ⟨w.heap.size, 2, none⟩ = some (.slice LA ll lc) := by rw [hb1.cell (by simp)]; simp
  have HB1 := Lib.hid (hb0.trans (hb1.mono (by simp)))
  clear hb0 hb1
  go_wp2_with fail
  refine (book_any HV.out HB1.out).mono ?_
  rintro e w2 ⟨v2, zs, j, rfl, ho, hj, hbk, hb2⟩
  have hzl := hbk.len
  obtain ⟨n, hn⟩ : ∃ n, zs.length = n := ⟨_, rfl⟩
  obtain ⟨g, cap, hv2, hg1, hg2, hnc, hcm⟩ := ho.open_ (by omega)
  rw [hn] at hv2
  subst hv2
  have HS := Lib.hid (sums_any (some ⟨g, 0, none⟩) n cap zs w2 hn ho.rd (by omega))
  rw [gsum_zero (hbk.sums 0), gsum_zero (hbk.sums 1), gsum_zero (hbk.sums 2)] at HS
  have HB2 := Lib.hid (HB1.out.trans (hb2.mono HB1.out.size))
  clear ho hbk hb2 hn hzl k0 k1 k2 hj hnc hcm hg1 hg2
  go_wp2_with fail
  refine HS.out.mono ?_
  rintro e w3 ⟨rfl, hb3⟩
  have HB3 := Lib.hid (HB2.out.trans (hb3.mono HB2.out.size))
  have hz3 := HB3.out.size
  clear hb3
  go_wp2
  clear heq0
  obtain ⟨G, hG⟩ : ∃ G, w3.heap.size = G := ⟨_, rfl⟩
  have h1 : (w3.alloc (.cells #[.int .i64 0, .int .i64 0, .int .i64 0] 39)).heap[G]? = some (.cells #[.int .i64 0, .int .i64 0, .int .i64 0] 39 (0, 0)) := by rw [← hG]; exact heap_alloc_new w3 _
  have HB4 := Lib.hid (HB3.out.alloc hz3 (.cells #[.int .i64 0, .int .i64 0, .int .i64 0] 39))
  have H1 := Lib.hid h1
  rw [hG]
  rw [hG] at hz3
  clear h1 hG
  generalize (w3.alloc (.cells #[.int .i64 0, .int .i64 0, .int .i64 0] 39)) = w4 at *
  go_loopw [17] (fun i wr => ∃ k : Nat, k ≤ len ∧ i = .int .i64 (k : Int) ∧
    wr.heap[G]? = some (.cells #[.int .i64 (gsum 0 (raw.take k)), .int .i64 (gsum 1 (raw.take k)), .int .i64 (gsum 2 (raw.take k))] 39 (0, 0)) ∧ Below w.heap.size w wr) (fun i _ => len - (intOf i).toNat)
  case atStart => exact ⟨0, Nat.zero_le _, rfl, by simp only [List.take_zero, gsum_nil]; exact H1.out, HB4.out⟩
  case round =>
    obtain ⟨k, hk, rfl, h1, hbel⟩ := hrel
    have H1 := Lib.hid h1
    have HBEL := Lib.hid hbel
    have hsz := hbel.size
    have hlt1 : G < wr.heap.size := (Array.getElem?_eq_some_iff.1 h1).1
    have hne1 : ¬ G = wr.heap.size := by omega
    clear h1 hbel
    by_cases hlt : k < len
    · obtain ⟨a, ha⟩ : ∃ a, raw[k]? = some a := ⟨_, List.getElem?_eq_getElem (by rw [HRL.out]; exact hlt)⟩
      obtain ⟨ad, rfl, hat⟩ := (HRAW.out.below HBEL.out).at_ ha
      have hnext := take_next ha
      obtain ⟨c0, c1, c2⟩ := hat
      rw [add_next ad (k * 3) 1 (by omega)] at c1
      rw [add_next ad (k * 3) 2 (by omega)] at c2
      obtain ⟨c, b, l⟩ := a
      simp only at c0 c1 c2
      have HNEXT := Lib.hid hnext
      clear ha hnext
      obtain ⟨s0, e0⟩ : ∃ s, gsum 0 (raw.take k) = s := ⟨_, rfl⟩
      obtain ⟨s1, e1⟩ : ∃ s, gsum 1 (raw.take k) = s := ⟨_, rfl⟩
      obtain ⟨s2, e2⟩ : ∃ s, gsum 2 (raw.take k) = s := ⟨_, rfl⟩
      rw [e0, e1, e2] at H1
      have E0 := Lib.hid e0
      have E1 := Lib.hid e1
      have E2 := Lib.hid e2
      clear e0 e1 e2
      have hcc : ∀ j (u : Value), (#[.int .i64 s0, .int .i64 s1, .int .i64 s2] : Array Value)[j]? = some u → wr.cell? ⟨G, j, none⟩ = some u := fun j u hu => by
        rw [cell_of_row wr G j _ _ (0, 0) H1.out]; exact hu
      have hff : ∀ j, wr.frozen? ⟨G, j, none⟩ = false := fun j => frozen_of_row wr G j _ _ H1.out
      by_cases hin : 0 ≤ c ∧ c < 3
      · have h3 : c = 0 ∨ c = 1 ∨ c = 2 := by omega
        clear hin
        rcases h3 with rfl | rfl | rfl
        · have d0 := hcc 0 _ rfl
          have f0 := hff 0
          clear hcc hff
          go_wp2
          go_region
          go_wp2
          go_roundw
          case rel =>
            refine ⟨k + 1, by omega, by go_num, ?_, ((HBEL.out.setCell (by simpa using hz3) _).alloc (by simp; omega) _).drew⟩
            rw [HNEXT.out, gsum_same (c := 0) _ rfl, gsum_other _ (by dsimp only; omega), gsum_other _ (by dsimp only; omega), E0.out, E1.out, E2.out]
            exact (Below.heap_alloc _ _ _ (by simp; omega)).trans (heap_setCell_same _ G 0 _ _ _ H1.out)
          case measure => simp [intOf]; omega
        · have d0 := hcc 1 _ rfl
          have f0 := hff 1
          clear hcc hff
          go_wp2
          go_region
          go_wp2
          go_roundw
          case rel =>
            refine ⟨k + 1, by omega, by go_num, ?_, ((HBEL.out.setCell (by simpa using hz3) _).alloc (by simp; omega) _).drew⟩
            rw [HNEXT.out, gsum_other _ (by dsimp only; omega), gsum_same (c := 1) _ rfl, gsum_other _ (by dsimp only; omega), E0.out, E1.out, E2.out]
            exact (Below.heap_alloc _ _ _ (by simp; omega)).trans (heap_setCell_same _ G 1 _ _ _ H1.out)
          case measure => simp [intOf]; omega
        · have d0 := hcc 2 _ rfl
          have f0 := hff 2
          clear hcc hff
          go_wp2
          go_region
          go_wp2
          go_roundw
          case rel =>
            refine ⟨k + 1, by omega, by go_num, ?_, ((HBEL.out.setCell (by simpa using hz3) _).alloc (by simp; omega) _).drew⟩
            rw [HNEXT.out, gsum_other _ (by dsimp only; omega), gsum_other _ (by dsimp only; omega), gsum_same (c := 2) _ rfl, E0.out, E1.out, E2.out]
            exact (Below.heap_alloc _ _ _ (by simp; omega)).trans (heap_setCell_same _ G 2 _ _ _ H1.out)
          case measure => simp [intOf]; omega
      · have HNX : Hid (wr.heap[G]? = some (.cells #[.int .i64 (gsum 0 (raw.take (k + 1))), .int .i64 (gsum 1 (raw.take (k + 1))), .int .i64 (gsum 2 (raw.take (k + 1)))] 39 (0, 0))) := Lib.hid (by
          rw [HNEXT.out, gsum_other _ (by dsimp only; omega), gsum_other _ (by dsimp only; omega), gsum_other _ (by dsimp only; omega), E0.out, E1.out, E2.out]; exact H1.out)
        clear hcc hff
        by_cases hneg : c < 0
        · clear hin
          go_wp2
          go_roundw
          case rel => exact ⟨k + 1, by omega, by go_num, (Below.heap_alloc _ _ _ hlt1).trans HNX.out, HBEL.out.alloc hsz _⟩
          case measure => simp [intOf]; omega
        · have hbig : 3 ≤ c := by omega
          clear hin
          go_wp2
          go_roundw
          case rel => exact ⟨k + 1, by omega, by go_num, (Below.heap_alloc _ _ _ hlt1).trans HNX.out, HBEL.out.alloc hsz _⟩
          case measure => simp [intOf]; omega
    · obtain rfl : k = len := by omega
      rw [List.take_of_length_le (by rw [HRL.out]; omega)] at H1
      obtain ⟨s0, e0⟩ : ∃ s, gsum 0 raw = s := ⟨_, rfl⟩
      obtain ⟨s1, e1⟩ : ∃ s, gsum 1 raw = s := ⟨_, rfl⟩
      obtain ⟨s2, e2⟩ : ∃ s, gsum 2 raw = s := ⟨_, rfl⟩
      have HSS := Lib.hid (fun p : After wr => sums_any A k cap0 raw p.world HRL.out (HRAW.out.below (HBEL.out.trans (p.below.mono HBEL.out.size))) hlen)
      rw [e0, e1, e2] at H1 HSS
      clear e0 e1 e2
      have hcc : ∀ (p : After wr) j (u : Value), (#[.int .i64 s0, .int .i64 s1, .int .i64 s2] : Array Value)[j]? = some u → p.world.cell? ⟨G, j, none⟩ = some u := fun p j u hu => by
        rw [p.below.cell (p := ⟨G, j, none⟩) hlt1, cell_of_row wr G j _ _ (0, 0) H1.out]; exact hu
      have g0 := fun p : After wr => hcc p 0 _ rfl
      have g1 := fun p : After wr => hcc p 1 _ rfl
      have g2 := fun p : After wr => hcc p 2 _ rfl
      have heq := arr_same s0 s1 s2
      clear hcc
      go_wp2
      refine wp_region_after (by kernel_rfl) (by kernel_rfl) ?_
      repeat (go_big_quiet_step (first | (go_at_call 16; exact after_call _ (HSS.out _))))
      refine wpQuiet_nil ?_
      intro _ hw'
      obtain ⟨p, rfl⟩ := hw'
      have HB6 := Lib.hid (HBEL.out.trans (p.below.mono HBEL.out.size))
      clear g0 g1 g2
      go_wp2
      go_ret
      exact ⟨rfl, HB6.out⟩
end Go.Proofs.Ytpcpocgagfpbhaa
