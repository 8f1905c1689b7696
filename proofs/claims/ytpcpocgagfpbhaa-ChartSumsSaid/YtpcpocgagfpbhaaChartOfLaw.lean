/-
  The statement ChartOf by its walk.
-/
import Derived.Test.YtpcpocgagfpbhaaChartAwake
import Derived.Test.YtpcpocgagfpbhaaChartArg
import Derived.Test.YtpcpocgagfpbhaaBook
namespace Go.Proofs.Ytpcpocgagfpbhaa
open Go Go.RowKit
set_option linter.unusedVariables false

/-- The accounts of a book that came in, at whatever time. -/
theorem book_any {w W : World} {v : Value} (h : BookAt w v) (hb : Below w.heap.size w W) : Calls Try.prog 10 #[v] W (BookRes W) := by
  obtain ⟨CA, HA, LA, cl, cc, hl, hc, ll, lc, cs, hs, ls, rfl, h1, h2, h3, h4, h5, h6, h7, h8, h9⟩ := h.form
  exact accounts_any CA HA LA cl cc hl hc ll lc cs hs ls W (h1.below hb) (h2.below hb) (h3.below hb) h4 h5 h6 h7 h8 h9

set_option maxRecDepth 100000 in
set_option maxHeartbeats 4000000 in
theorem chartOf_walk (w : World) (v : Value) (hv : BookAt w v) (k : Int) (wk : (Lit.int .i64 k).wf = true) (kd : Int) (wkd : (Lit.int .i64 kd).wf = true) (cu : Int) (wcu : (Lit.int .i64 cu).wf = true) :
    Calls Try.prog 4 #[v, .int .i64 k, .int .i64 kd, .int .i64 cu] w fun e w' => e = .returned (.bool true) ∧ Below w.heap.size w w' := by
  obtain ⟨CA, HA, LA, cl, cc, hl, hc, ll, lc, cs, hs, ls, rfl, _⟩ := hv.form
  have HV := Lib.hid hv
  clear wk wkd wcu hv
  go_enter Try.func4, Try.ntmps4
  go_wp2_with fail
  have hb0 := (Below.refl w.heap.size w).alloc (Nat.le_refl _) (.cells #[.slice CA cl cc, .slice HA hl hc, .slice LA ll lc] 25)
  have HB0 := Lib.hid hb0
  refine (awake_ok _).mono ?_
  rintro e w1 ⟨rfl, hb1⟩
  have k0 : w1.cell? ⟨w.heap.size, 0, none⟩ = some (.slice CA cl cc) := by rw [hb1.cell (by simp)]; simp
  have k1 : w1.cell? ⟨w.heap.size, 1, none⟩ = some (.slice HA hl hc) := by rw [hb1.cell (by simp)]; simp
  have k2 : w1.cell? ⟨w.heap.size, 2, none⟩ = some (.slice LA ll lc) := by rw [hb1.cell (by simp)]; simp
  have HB1 := Lib.hid (hb0.trans (hb1.mono (by simp)))
  clear hb0 hb1
  go_wp2_with fail
  refine (book_any HV.out HB1.out).mono ?_
  rintro e w2 ⟨v2, zs, j, rfl, ho, hj, hbk, hb2⟩
  have hzl := hbk.len
  obtain ⟨n, hn⟩ : ∃ n, zs.length = n := ⟨_, rfl⟩
  obtain ⟨g, cap, hv2, hg1, hg2, hnc, hcm⟩ := ho.open_ (by omega)
  rw [hn] at hv2 hzl
  subst hv2
  have hn9 : 9 ≤ n := by omega
  have HB2 := Lib.hid (HB1.out.trans (hb2.mono HB1.out.size))
  clear hb2 ho hbk hn hg1 hg2 hnc hcm k0 k1 k2 hj hzl
  by_cases a1 : k < 0
  · have HO1 := Lib.hid (fun W => of_none (some ⟨g, 0, none⟩) n cap k W (by omega))
    have HO2 := Lib.hid (fun W => isClient_none (some ⟨g, 0, none⟩) n cap k W (by omega))
    by_cases hnum : 0 ≤ kd ∧ kd < 3 ∧ 0 ≤ cu ∧ cu < 3
    · obtain ⟨n1, n2, n3, n4⟩ := hnum
      obtain ⟨t, ht⟩ : ∃ t : Int, 3 * cu + kd = t := ⟨_, rfl⟩
      have HNU := Lib.hid (fun W => number_some kd cu W n1 n2 n3 n4)
      rw [show cu * 3 + kd = t by omega] at HNU
      go_wp2_with (first | (go_at_call 13; refine (HO1.out _).mono ?_; rintro e w4 ⟨rfl, rfl⟩) | (go_at_call 15; refine (HNU.out _).mono ?_; rintro e w4 ⟨rfl, rfl⟩) | (go_at_call 14; refine (HO2.out _).mono ?_; rintro e w4 ⟨rfl, rfl⟩))
      go_ret
      exact ⟨rfl, HB2.out⟩
    · have HNU := Lib.hid (fun W => number_none kd cu W hnum)
      by_cases m1 : kd < 0
      · clear hnum
        go_wp2_with (first | (go_at_call 13; refine (HO1.out _).mono ?_; rintro e w4 ⟨rfl, rfl⟩) | (go_at_call 15; refine (HNU.out _).mono ?_; rintro e w4 ⟨rfl, rfl⟩) | (go_at_call 14; refine (HO2.out _).mono ?_; rintro e w4 ⟨rfl, rfl⟩))
        go_ret
        exact ⟨rfl, HB2.out⟩
      by_cases m2 : 3 ≤ kd
      · clear hnum
        go_wp2_with (first | (go_at_call 13; refine (HO1.out _).mono ?_; rintro e w4 ⟨rfl, rfl⟩) | (go_at_call 15; refine (HNU.out _).mono ?_; rintro e w4 ⟨rfl, rfl⟩) | (go_at_call 14; refine (HO2.out _).mono ?_; rintro e w4 ⟨rfl, rfl⟩))
        go_ret
        exact ⟨rfl, HB2.out⟩
      by_cases m3 : cu < 0
      · clear hnum
        go_wp2_with (first | (go_at_call 13; refine (HO1.out _).mono ?_; rintro e w4 ⟨rfl, rfl⟩) | (go_at_call 15; refine (HNU.out _).mono ?_; rintro e w4 ⟨rfl, rfl⟩) | (go_at_call 14; refine (HO2.out _).mono ?_; rintro e w4 ⟨rfl, rfl⟩))
        go_ret
        exact ⟨rfl, HB2.out⟩
      have m4 : 3 ≤ cu := by omega
      clear hnum
      go_wp2_with (first | (go_at_call 13; refine (HO1.out _).mono ?_; rintro e w4 ⟨rfl, rfl⟩) | (go_at_call 15; refine (HNU.out _).mono ?_; rintro e w4 ⟨rfl, rfl⟩) | (go_at_call 14; refine (HO2.out _).mono ?_; rintro e w4 ⟨rfl, rfl⟩))
      go_ret
      exact ⟨rfl, HB2.out⟩
  by_cases a2 : (n : Int) ≤ k
  · have HO1 := Lib.hid (fun W => of_none (some ⟨g, 0, none⟩) n cap k W (by omega))
    have HO2 := Lib.hid (fun W => isClient_none (some ⟨g, 0, none⟩) n cap k W (by omega))
    by_cases hnum : 0 ≤ kd ∧ kd < 3 ∧ 0 ≤ cu ∧ cu < 3
    · obtain ⟨n1, n2, n3, n4⟩ := hnum
      obtain ⟨t, ht⟩ : ∃ t : Int, 3 * cu + kd = t := ⟨_, rfl⟩
      have HNU := Lib.hid (fun W => number_some kd cu W n1 n2 n3 n4)
      rw [show cu * 3 + kd = t by omega] at HNU
      go_wp2_with (first | (go_at_call 13; refine (HO1.out _).mono ?_; rintro e w4 ⟨rfl, rfl⟩) | (go_at_call 15; refine (HNU.out _).mono ?_; rintro e w4 ⟨rfl, rfl⟩) | (go_at_call 14; refine (HO2.out _).mono ?_; rintro e w4 ⟨rfl, rfl⟩))
      go_ret
      exact ⟨rfl, HB2.out⟩
    · have HNU := Lib.hid (fun W => number_none kd cu W hnum)
      by_cases m1 : kd < 0
      · clear hnum
        go_wp2_with (first | (go_at_call 13; refine (HO1.out _).mono ?_; rintro e w4 ⟨rfl, rfl⟩) | (go_at_call 15; refine (HNU.out _).mono ?_; rintro e w4 ⟨rfl, rfl⟩) | (go_at_call 14; refine (HO2.out _).mono ?_; rintro e w4 ⟨rfl, rfl⟩))
        go_ret
        exact ⟨rfl, HB2.out⟩
      by_cases m2 : 3 ≤ kd
      · clear hnum
        go_wp2_with (first | (go_at_call 13; refine (HO1.out _).mono ?_; rintro e w4 ⟨rfl, rfl⟩) | (go_at_call 15; refine (HNU.out _).mono ?_; rintro e w4 ⟨rfl, rfl⟩) | (go_at_call 14; refine (HO2.out _).mono ?_; rintro e w4 ⟨rfl, rfl⟩))
        go_ret
        exact ⟨rfl, HB2.out⟩
      by_cases m3 : cu < 0
      · clear hnum
        go_wp2_with (first | (go_at_call 13; refine (HO1.out _).mono ?_; rintro e w4 ⟨rfl, rfl⟩) | (go_at_call 15; refine (HNU.out _).mono ?_; rintro e w4 ⟨rfl, rfl⟩) | (go_at_call 14; refine (HO2.out _).mono ?_; rintro e w4 ⟨rfl, rfl⟩))
        go_ret
        exact ⟨rfl, HB2.out⟩
      have m4 : 3 ≤ cu := by omega
      clear hnum
      go_wp2_with (first | (go_at_call 13; refine (HO1.out _).mono ?_; rintro e w4 ⟨rfl, rfl⟩) | (go_at_call 15; refine (HNU.out _).mono ?_; rintro e w4 ⟨rfl, rfl⟩) | (go_at_call 14; refine (HO2.out _).mono ?_; rintro e w4 ⟨rfl, rfl⟩))
      go_ret
      exact ⟨rfl, HB2.out⟩
  by_cases a3 : k < 9
  · have HO1 := Lib.hid (fun W => of_house (some ⟨g, 0, none⟩) n cap k W (by omega) a3 (by omega))
    have HO2 := Lib.hid (fun W => isClient_house (some ⟨g, 0, none⟩) n cap k W (by omega) a3 (by omega))
    obtain ⟨r, hr⟩ : ∃ r : Int, k % 3 = r := ⟨_, rfl⟩
    have hr2 : k.tmod 3 = r := by rw [Int.tmod_eq_emod_of_nonneg (by omega)]; exact hr
    rw [hr] at HO1
    by_cases hnum : 0 ≤ kd ∧ kd < 3 ∧ 0 ≤ cu ∧ cu < 3
    · obtain ⟨n1, n2, n3, n4⟩ := hnum
      obtain ⟨t, ht⟩ : ∃ t : Int, 3 * cu + kd = t := ⟨_, rfl⟩
      have HNU := Lib.hid (fun W => number_some kd cu W n1 n2 n3 n4)
      rw [show cu * 3 + kd = t by omega] at HNU
      go_wp2_with (first | (go_at_call 13; refine (HO1.out _).mono ?_; rintro e w4 ⟨rfl, rfl⟩) | (go_at_call 15; refine (HNU.out _).mono ?_; rintro e w4 ⟨rfl, rfl⟩) | (go_at_call 14; refine (HO2.out _).mono ?_; rintro e w4 ⟨rfl, rfl⟩))
      go_ret
      exact ⟨rfl, HB2.out⟩
    · have HNU := Lib.hid (fun W => number_none kd cu W hnum)
      by_cases m1 : kd < 0
      · clear hnum
        go_wp2_with (first | (go_at_call 13; refine (HO1.out _).mono ?_; rintro e w4 ⟨rfl, rfl⟩) | (go_at_call 15; refine (HNU.out _).mono ?_; rintro e w4 ⟨rfl, rfl⟩) | (go_at_call 14; refine (HO2.out _).mono ?_; rintro e w4 ⟨rfl, rfl⟩))
        go_ret
        exact ⟨rfl, HB2.out⟩
      by_cases m2 : 3 ≤ kd
      · clear hnum
        go_wp2_with (first | (go_at_call 13; refine (HO1.out _).mono ?_; rintro e w4 ⟨rfl, rfl⟩) | (go_at_call 15; refine (HNU.out _).mono ?_; rintro e w4 ⟨rfl, rfl⟩) | (go_at_call 14; refine (HO2.out _).mono ?_; rintro e w4 ⟨rfl, rfl⟩))
        go_ret
        exact ⟨rfl, HB2.out⟩
      by_cases m3 : cu < 0
      · clear hnum
        go_wp2_with (first | (go_at_call 13; refine (HO1.out _).mono ?_; rintro e w4 ⟨rfl, rfl⟩) | (go_at_call 15; refine (HNU.out _).mono ?_; rintro e w4 ⟨rfl, rfl⟩) | (go_at_call 14; refine (HO2.out _).mono ?_; rintro e w4 ⟨rfl, rfl⟩))
        go_ret
        exact ⟨rfl, HB2.out⟩
      have m4 : 3 ≤ cu := by omega
      clear hnum
      go_wp2_with (first | (go_at_call 13; refine (HO1.out _).mono ?_; rintro e w4 ⟨rfl, rfl⟩) | (go_at_call 15; refine (HNU.out _).mono ?_; rintro e w4 ⟨rfl, rfl⟩) | (go_at_call 14; refine (HO2.out _).mono ?_; rintro e w4 ⟨rfl, rfl⟩))
      go_ret
      exact ⟨rfl, HB2.out⟩
  have a4 : 8 < k := by omega
  have a5 : k < (n : Int) := by omega
  have a6 : 0 ≤ k := by omega
  have HO1 := Lib.hid (fun W => of_client (some ⟨g, 0, none⟩) n cap k W (by omega) (by omega))
  have HO2 := Lib.hid (fun W => isClient_client (some ⟨g, 0, none⟩) n cap k W (by omega) (by omega))
  by_cases hnum : 0 ≤ kd ∧ kd < 3 ∧ 0 ≤ cu ∧ cu < 3
  · obtain ⟨n1, n2, n3, n4⟩ := hnum
    obtain ⟨t, ht⟩ : ∃ t : Int, 3 * cu + kd = t := ⟨_, rfl⟩
    have HNU := Lib.hid (fun W => number_some kd cu W n1 n2 n3 n4)
    rw [show cu * 3 + kd = t by omega] at HNU
    go_wp2_with (first | (go_at_call 13; refine (HO1.out _).mono ?_; rintro e w4 ⟨rfl, rfl⟩) | (go_at_call 15; refine (HNU.out _).mono ?_; rintro e w4 ⟨rfl, rfl⟩) | (go_at_call 14; refine (HO2.out _).mono ?_; rintro e w4 ⟨rfl, rfl⟩))
    go_ret
    exact ⟨rfl, HB2.out⟩
  · have HNU := Lib.hid (fun W => number_none kd cu W hnum)
    by_cases m1 : kd < 0
    · clear hnum
      go_wp2_with (first | (go_at_call 13; refine (HO1.out _).mono ?_; rintro e w4 ⟨rfl, rfl⟩) | (go_at_call 15; refine (HNU.out _).mono ?_; rintro e w4 ⟨rfl, rfl⟩) | (go_at_call 14; refine (HO2.out _).mono ?_; rintro e w4 ⟨rfl, rfl⟩))
      go_ret
      exact ⟨rfl, HB2.out⟩
    by_cases m2 : 3 ≤ kd
    · clear hnum
      go_wp2_with (first | (go_at_call 13; refine (HO1.out _).mono ?_; rintro e w4 ⟨rfl, rfl⟩) | (go_at_call 15; refine (HNU.out _).mono ?_; rintro e w4 ⟨rfl, rfl⟩) | (go_at_call 14; refine (HO2.out _).mono ?_; rintro e w4 ⟨rfl, rfl⟩))
      go_ret
      exact ⟨rfl, HB2.out⟩
    by_cases m3 : cu < 0
    · clear hnum
      go_wp2_with (first | (go_at_call 13; refine (HO1.out _).mono ?_; rintro e w4 ⟨rfl, rfl⟩) | (go_at_call 15; refine (HNU.out _).mono ?_; rintro e w4 ⟨rfl, rfl⟩) | (go_at_call 14; refine (HO2.out _).mono ?_; rintro e w4 ⟨rfl, rfl⟩))
      go_ret
      exact ⟨rfl, HB2.out⟩
    have m4 : 3 ≤ cu := by omega
    clear hnum
    go_wp2_with (first | (go_at_call 13; refine (HO1.out _).mono ?_; rintro e w4 ⟨rfl, rfl⟩) | (go_at_call 15; refine (HNU.out _).mono ?_; rintro e w4 ⟨rfl, rfl⟩) | (go_at_call 14; refine (HO2.out _).mono ?_; rintro e w4 ⟨rfl, rfl⟩))
    go_ret
    exact ⟨rfl, HB2.out⟩
end Go.Proofs.Ytpcpocgagfpbhaa
