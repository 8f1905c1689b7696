/-
  The statement FrameMake by its walk.
-/
import Derived.Test.YtgdhlkfbohjilaaFrameOneLaw
import Derived.Test.YtgdhlkfbohjilaaFrameWide
namespace Go.Proofs.Ytgdhlkfbohjilaa
open Go.RowKit
set_option linter.unusedVariables false

set_option maxRecDepth 100000 in
set_option maxHeartbeats 2000000 in
theorem frameMake_walk (w : World) (a : Option Addr) (len cap : Nat) (zs : List Int) (h : IsRow .u8 w a len cap zs) (hr : cap * 1 ≤ 140737488351232)
    (n_ : Int) (hn_ : (Lit.int .u16 n_).wf = true) (b : Option Addr) (lb cb : Nat) (zb : List Int) (h2 : IsRow .u8 w b lb cb zb) (hr2 : cb * 1 ≤ 140737488351232) :
    Calls Try.prog 3 #[.slice a len cap, .int .u16 n_, .slice b lb cb] w fun e w' => e = .returned (.bool true) ∧ Below w.heap.size w w' := by
  obtain ⟨q, rfl, hq⟩ := u16_nat hn_
  obtain ⟨xs, hrd, hxl, hw, hnc, _⟩ := row_bytes h
  obtain ⟨rest, hrr, hrl, hrw, hnr, _⟩ := row_bytes h2
  have hl : len ≤ 140737488351232 := by omega
  have hl2 : lb ≤ 140737488351232 := by omega
  have HR := Lib.hid hrd
  have HW := Lib.hid hw
  have HXL := Lib.hid hxl
  have HRR := Lib.hid hrr
  have HRW := Lib.hid hrw
  have HRL := Lib.hid hrl
  clear h hrd hw hxl hn_ h2 hrr hrw hrl
  go_enter Try.func3, Try.ntmps3
  go_wp2_with fail
  refine (awake_any w).mono ?_
  rintro e w1 ⟨rfl, hb⟩
  have HB := Lib.hid hb
  have HR1 := Lib.hid (HR.out.below hb)
  have hsz := hb.size
  clear hb
  go_wp2_with fail
  refine (wide_any a len cap xs w1 HR1.out HW.out (by omega) q hq).mono ?_
  rintro e w2 ⟨A2, c2, ys, rfl, h21, h22, hr2, hyw, hyl, hb2⟩
  obtain ⟨l2, hl2e⟩ : ∃ l2, l2 = ys.length := ⟨_, rfl⟩
  rw [← hl2e] at h21 hr2 hyl ⊢
  have HB2 := Lib.hid hb2
  have HR2 := Lib.hid hr2
  have HYW := Lib.hid hyw
  clear hb2 hr2 hyw hl2e
  go_wp2
  obtain ⟨g, hg⟩ : ∃ g, g = w2.heap.size := ⟨_, rfl⟩
  obtain ⟨w3, hw3⟩ : ∃ w3, w3 = w2.alloc (.cells #[.slice a len cap, .slice A2 l2 c2] 22) := ⟨_, rfl⟩
  have hb3 : Below w.heap.size w w3 := by
    rw [hw3]
    exact ((HB.out.trans (HB2.out.mono HB.out.size)).alloc (by have := HB2.out.size; omega) _)
  have hrows : ∀ k, k < 2 → ∃ A m c ys, w3.cell? ⟨g, k, none⟩ = some (.slice A m c) ∧ Rd .u8 w3 A m (ints ys) ∧ (∀ x ∈ ys, x < 256) ∧ m ≤ c ∧ c ≤ 9223372036854775807 ∧ m ≤ 140737488351232 := by
    intro k hk
    have hc := two_rows (w := w2) (t := 22) (.slice a len cap) (.slice A2 l2 c2) hk
    rw [← hw3, ← hg] at hc
    rcases (show k = 0 ∨ k = 1 by omega) with rfl | rfl
    · exact ⟨a, len, cap, xs, hc, HR.out.below hb3, HW.out, hnc, by omega, hl⟩
    · exact ⟨A2, l2, c2, ys, hc, by rw [hw3]; exact HR2.out.alloc _, HYW.out, h21, by unfold maxLen at h22; omega, by omega⟩
  rw [← hg, ← hw3]
  have HROWS := Lib.hid hrows
  have HB3 := Lib.hid hb3
  have HRR3 := Lib.hid (HRR.out.below hb3)
  have hsw := hb3.size
  clear hrows hb3 hw3 hg HR2 HB2 HB HR1 hsz h21 h22 HYW hyl
  go_loopw [22] (fun i wr => ∃ k : Nat, k ≤ 2 ∧ i = .int .i64 k ∧ Below w3.heap.size w3 wr) (fun i _ => 2 - (intOf i).toNat)
  case atStart => exact ⟨0, by omega, rfl, Below.refl _ _⟩
  case round =>
    obtain ⟨k, hk, rfl, hbel⟩ := hrel
    by_cases hlt : k < 2
    · obtain ⟨A, m, c, ys, hcell, hrd, hyw, hmc, hcm, hmm⟩ := HROWS.out k hlt
      have hcell' : wr.cell? ⟨g, k, none⟩ = some (.slice A m c) := by rw [hbel.cell (World.block_lt_of_cell? w3 _ hcell)]; exact hcell
      have HRD := Lib.hid (hrd.below hbel)
      have HYW := Lib.hid hyw
      have HBEL := Lib.hid hbel
      have HRRB := Lib.hid (HRR3.out.below hbel)
      have hyl : ys.length = m := by have := hrd.1; rwa [ints_length] at this
      have HYL := Lib.hid hyl
      clear hcell hrd hyw hbel hyl
      by_cases hbig : 16384 < m
      · go_wp2_with fail
        refine (make_long A m c wr hbig (by omega)).mono ?_
        rintro e w4 ⟨rfl, rfl⟩
        go_wp2
        go_roundw
        case rel => exact ⟨k + 1, by omega, by go_num, HBEL.out⟩
        case measure => simp [intOf]; omega
      · have hm16 : m ≤ 16384 := by omega
        clear hbig
        go_wp2_with fail
        refine (make_any A m c ys wr HRD.out HYW.out hm16).mono ?_
        rintro e w4 ⟨B, d, rfl, hd1, hd2, hrb, hb4⟩
        have hfl : (fmk ys).length = 6 + m := by rw [fmk_length, HYL.out]
        rw [hfl] at hd1 hrb ⊢
        have HRB := Lib.hid hrb
        have HFL := Lib.hid hfl
        have HB4 := Lib.hid (HBEL.out.trans (hb4.mono HBEL.out.size))
        have HRR4 := Lib.hid (HRRB.out.below hb4)
        have HRD4 := Lib.hid (HRD.out.below hb4)
        clear hb4 hrb hfl hd2
        go_wp2_with (first
          | (at_builtin
             refine wpList_append_ints _ rfl (.const (.slice none 0 0)) (.tmp 41) 22 rfl .u8 1 w4.heap.size 5 Try.underlying22 info_byte _ 0 [] rfl Own.nil B (6 + m) d _ rfl HRB.out (by omega) (by omega) (Nat.le_refl _) ?_
             intro v5 w5 ho5 hg5
             have hb5 : Below w4.heap.size w4 w5 := (Below.refl _ _).grown hg5 (Nat.le_refl _) (fun g he => by have he' : none = some g := he; cases he')
             rw [Nat.zero_add, List.nil_append] at ho5
             have hrow := ho5.rowLt
             have HO5 := Lib.hid ho5
             have HB5 := Lib.hid hb5
             have HROW := Lib.hid hrow
             have hz5 := hb5.size
             clear ho5 hg5 hb5 hrow)
          | (at_builtin
             refine wpList_append_ints _ rfl (.tmp 42) (.tmp 43) 22 rfl .u8 1 w4.heap.size 5 Try.underlying22 info_byte _ (6 + m) _ rfl HO5.out b lb cb _ rfl (HRR4.out.below HB5.out) (by omega) (by omega) hz5 ?_
             intro v6 w6 ho6 hg6))
        have hb6 : Below w4.heap.size w4 w6 := HB5.out.grown hg6 hz5 HROW.out
        rw [← ints_append] at ho6
        obtain ⟨A6, c6, rfl, h61, h62, hr6, hnil⟩ := ho6.form
        have HB6 := Lib.hid (HB4.out.trans (hb6.mono HB4.out.size))
        have HR6 := Lib.hid hr6
        have HB46 := Lib.hid hb6
        have hall : ∀ x ∈ fmk ys ++ rest, x < 256 := fun x hx => by
          rcases List.mem_append.1 hx with hx | hx
          · exact fmk_lt HYW.out x hx
          · exact HRW.out x hx
        have HALL := Lib.hid hall
        have HONE := Lib.hid (fone_mk ys rest (by rw [HYL.out]; exact hm16))
        unfold maxLen at h62
        clear ho6 hg6 hb6 hr6 hnil HO5 HROW hall
        refine (one_any A6 (6 + m + lb) c6 _ w6 HR6.out HALL.out h61 (by omega) _ HONE.out).mono ?_
        rintro e w7 ⟨hb7, A7, c7, rfl, h71, h72, hr7, hnew⟩
        have HB7 := Lib.hid (HB6.out.trans (hb7.mono HB6.out.size))
        have hb47 : Below w4.heap.size w4 w7 := HB46.out.trans (hb7.mono HB46.out.size)
        rw [HYL.out] at h71 hr7 ⊢
        have MA := Lib.hid (made_after (w0 := w7) A m c ys (HRD4.out.below hb47) HYW.out hm16)
        have d1 := fun p : After w7 => str_of p.world B _ d _ ((HRB.out.below hb47).below p.below)
        have d2 := fun p : After w7 => str_of p.world A7 _ c7 _ (hr7.below p.below)
        have d3 := fun p : After w7 => str_of p.world A _ c _ ((HRD4.out.below hb47).below p.below)
        clear hb7 hb47 hr7 hnew HRB HR6 HRR4 HRD4 HONE HALL HB5 HB46
        go_wp2
        refine wp_region_after (by kernel_rfl) (by kernel_rfl) ?_
        repeat (go_big_quiet_step ((go_at_call 13; exact MA.out _)))
        refine wpQuiet_nil ?_
        intro _ hw'
        obtain ⟨p, rfl⟩ := hw'
        have HB8 := Lib.hid (HB7.out.trans (p.below.mono HB7.out.size))
        clear d1 d2 d3
        go_wp2
        go_roundw
        case rel => exact ⟨k + 1, by omega, by go_num, HB8.out⟩
        case measure => simp [intOf]; omega
    · obtain rfl : k = 2 := by omega
      have HBEL := Lib.hid hbel
      clear hbel
      go_wp2
      go_ret
      exact ⟨rfl, HB3.out.trans (HBEL.out.mono hsw)⟩
end Go.Proofs.Ytgdhlkfbohjilaa
