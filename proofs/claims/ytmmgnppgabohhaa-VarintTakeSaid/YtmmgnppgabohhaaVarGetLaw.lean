/-
  The statement VarintGet by its walk.
-/
import Derived.Test.YtmmgnppgabohhaaVarBytes
import Derived.Test.YtmmgnppgabohhaaRowArg
import Derived.Deep.RegionWith
namespace Go.Proofs.Ytmmgnppgabohhaa
open Go.RowKit
set_option linter.unusedVariables false

theorem str_of (w : World) (A : Option Addr) (n c : Nat) (xs : List Nat) (hr : Rd .u8 w A n (ints xs)) : (convert 22 9 (.slice A n c)).run Try.prog w = .ok (.string (strOfNums (ints xs))) w :=
  run_str (P := Try.prog) w 22 9 5 Try.underlying22 Try.underlying5 Try.underlying9 A n c _ hr

set_option maxRecDepth 100000 in
set_option maxHeartbeats 2000000 in
theorem getlaw_yes (a : Option Addr) (len cap : Nat) (xs : List Nat) (u s : Nat) (w : World) (hr : Rd .u8 w a len (ints xs)) (hw : ∀ x ∈ xs, x < 256) (hnc : len ≤ cap) (hm : cap ≤ maxLen) (hl : len ≤ 140737488351232) (h : rd xs = some (u, s)) :
    Calls Try.prog 4 #[.slice a len cap] w fun e w' => e = .returned (.bool true) ∧ Below w.heap.size w w' := by
  obtain ⟨hu, _, hxs⟩ := rd_some hw h
  obtain ⟨u1, u2⟩ := unp_bd hu
  have hel := enc_len_ten hu
  have hxl : xs.length = len := by have := hr.1; rwa [ints_length] at this
  obtain ⟨n, hn⟩ : ∃ n, n = unp u := ⟨_, rfl⟩
  have HN : Hid (u = pairN n) := Lib.hid (by rw [hn, pair_unp])
  have hg := fun W hR => get_some a len cap xs W u s hR hw hnc hm (by omega) h
  rw [← hn] at hg u1 u2
  obtain ⟨r, hrr⟩ : ∃ r, r = xs.drop s := ⟨_, rfl⟩
  rw [← hrr] at hg hxs
  have hx0 : strN (enc (pairN n)) ++ strOfNums (ints r) = strOfNums (ints xs) := by
    rw [← HN.out]
    conv => rhs; rw [hxs]
    exact strN_append _ _
  have hq : ((strN (enc (pairN n)) ++ strOfNums (ints r)).toList == (strOfNums (ints xs)).toList) = true := by rw [hx0]; exact beq_self_eq_true _
  have hrl : r.length ≤ len := by rw [hrr, List.length_drop, hxl]; omega
  have hss : ¬ 9223372036854775807 < (strN (enc (pairN n))).size + (strOfNums (ints r)).size := by rw [strN_size, strOfNums_size, ints_length, ← HN.out]; omega
  have HG := Lib.hid hg
  have HR := Lib.hid hr
  clear h hg hr hw hn hxl hrr hxs hel hx0
  go_enter Try.func4, Try.ntmps4
  go_wp2_with fail
  refine (awake_ok w).mono ?_
  rintro e w1 ⟨rfl, hb⟩
  have HB := Lib.hid hb
  clear hb
  go_wp2_with fail
  refine (HG.out w1 (HR.out.below HB.out)).mono ?_
  rintro e w2 ⟨v, rfl, ho, hb⟩
  have HB2 := Lib.hid (HB.out.trans (hb.mono HB.out.size))
  obtain ⟨A, c, rfl, _, _, hra, _⟩ := ho.form
  have HRA := Lib.hid hra
  have HRB := Lib.hid (HR.out.below HB2.out)
  clear HB ho hb hra
  have d1 := str_of w2.drew A _ c _ HRA.out.drew
  have d2 := str_of w2.drew a _ cap _ HRB.out.drew
  go_wp2
  go_region_with ((go_at_call 12; refine (bytes_any n _ u1 u2).mono ?_; rintro e w3 ⟨rfl, hb3⟩; have c1 := str_of w3 A _ c _ (HRA.out.drew.below hb3); have c2 := str_of w3 a _ cap _ (HRB.out.drew.below hb3)))
  all_goals
    have HB3 := Lib.hid (HB2.out.drew.trans (hb3.mono HB2.out.size))
    clear hb3
    go_wp2
    go_ret
    exact ⟨rfl, HB3.out⟩

set_option maxRecDepth 100000 in
set_option maxHeartbeats 4000000 in
theorem getlaw_no (a : Option Addr) (len cap : Nat) (xs : List Nat) (w : World) (hr : Rd .u8 w a len (ints xs)) (hw : ∀ x ∈ xs, x < 256) (hnc : len ≤ cap) (hm : cap ≤ maxLen) (hl : len ≤ 140737488351232) (h : rd xs = none) :
    Calls Try.prog 4 #[.slice a len cap] w fun e w' => e = .returned (.bool true) ∧ Below w.heap.size w w' := by
  have hxl : xs.length = len := by have := hr.1; rwa [ints_length] at this
  have hg := fun W hR => get_none a len cap xs W hR hw hnc hm h
  have HG := Lib.hid hg
  have HR := Lib.hid hr
  have HW := Lib.hid hw
  have HX := Lib.hid hxl
  have HN := Lib.hid h
  clear h hg hr hw hxl
  go_enter Try.func4, Try.ntmps4
  go_wp2_with fail
  refine (awake_ok w).mono ?_
  rintro e w1 ⟨rfl, hb⟩
  have HB := Lib.hid hb
  have HR1 := Lib.hid (HR.out.below hb)
  clear hb
  go_wp2_with fail
  refine (HG.out w1 HR1.out).mono ?_
  rintro e w2 ⟨rfl, rfl⟩
  clear HG HR
  go_wp2
  go_loop [6, 7] (fun u i => ∃ (k acc : Nat) (U : Int), k ≤ len ∧ k ≤ 9 ∧ i = .int .i64 k ∧ u = .int .u64 U ∧ rdF k acc (xs.drop k) = none) (fun _ i => 9 - (intOf i).toNat)
  case atStart => exact ⟨0, 0, 0, Nat.zero_le _, Nat.zero_le _, rfl, rfl, HN.out⟩
  case round =>
    obtain ⟨k, acc, U, hk, hk9, rfl, rfl, hinv⟩ := hrel
    have HI := Lib.hid hinv
    clear hinv
    by_cases hlt : k < len
    · obtain ⟨ad, rfl, hcell⟩ := HR1.out.at_ hlt
      rw [ints_getD] at hcell
      have hkl : k < xs.length := by rw [HX.out]; exact hlt
      obtain ⟨x, hx⟩ : ∃ x, x = xs.getD k 0 := ⟨_, rfl⟩
      have hx256 : x < 256 := HW.out x (by rw [hx]; simp [List.getD, hkl])
      have HC : Hid (xs.drop k = x :: xs.drop (k + 1)) := Lib.hid (by rw [hx]; exact drop_cons_getD xs k hkl)
      rw [← hx] at hcell
      clear hx hkl
      by_cases hc : k < 9 ∧ 127 < x
      · obtain ⟨c1, c2⟩ := hc
        have HI2 : Hid (rdF (k + 1) (acc + x % 128 * 2 ^ (7 * k)) (xs.drop (k + 1)) = none) := Lib.hid (by
          have := HI.out
          rw [HC.out, rdF_more (by omega) (by omega)] at this
          exact this)
        clear HI
        go_wp2
        go_round
        case rel => exact ⟨k + 1, _, _, by omega, by omega, by go_num, rfl, HI2.out⟩
        case measure => simp [intOf]; omega
      · have hfin : 127 < x ∨ (0 < k ∧ x = 0) ∨ (k = 9 ∧ 1 < x) := by
          by_cases hx1 : 127 < x
          · exact .inl hx1
          · by_cases hbad : (x = 0 ∧ 0 < k) ∨ (k = 9 ∧ 1 < x)
            · rcases hbad with ⟨e1, e2⟩ | hb
              · exact .inr (.inl ⟨e2, e1⟩)
              · exact .inr (.inr hb)
            · have := HI.out
              rw [HC.out, rdF_last (by omega) (by omega) hbad] at this
              cases this
        have bl := eqF (show (k : Int) ≠ (len : Int) by omega)
        by_cases hx1 : 127 < x
        · have h9 : 9 ≤ k := by omega
          clear hc hfin HI HC
          go_wp2
          go_ret
          exact ⟨rfl, HB.out⟩
        · by_cases hz : x = 0
          · have bz := eqT (show (x : Int) = 0 by omega)
            have h0 : 0 < k := by omega
            clear hfin HI HC hz hc
            by_cases h9 : k < 9
            all_goals
              go_wp2
              go_ret
              exact ⟨rfl, HB.out⟩
          · have bz := eqF (show (x : Int) ≠ 0 by omega)
            have b9 := eqT (show (k : Int) = 9 by omega)
            have h9 : 9 ≤ k := by omega
            have h1 : decide ((1 : Int) < (x : Int)) = true := decide_eq_true (by omega)
            have h2 : decide (1 < x) = true := decide_eq_true (by omega)
            clear hfin HI HC hz hc
            go_wp2
            go_ret
            exact ⟨rfl, HB.out⟩
    · have bl := eqT (show (k : Int) = (len : Int) by omega)
      clear HI
      go_wp2
      go_ret
      exact ⟨rfl, HB.out⟩

theorem varintGet_walk (w : World) (a : Option Addr) (len cap : Nat) (zs : List Int) (h : IsRow .u8 w a len cap zs) (hr : cap * 1 ≤ 140737488351232) :
    Calls Try.prog 4 #[.slice a len cap] w fun e w' => e = .returned (.bool true) ∧ Below w.heap.size w w' := by
  obtain ⟨xs, h1, _, h3, h4, h5⟩ := row_bytes h
  cases hrd : rd xs with
  | none => exact getlaw_no a len cap xs w h1 h3 h4 h5 (by omega) hrd
  | some us => exact getlaw_yes a len cap xs us.1 us.2 w h1 h3 h4 h5 (by omega) hrd
end Go.Proofs.Ytmmgnppgabohhaa
