/-
  The statement EntryMove by its walk.
-/
import Derived.Test.YtpgjifbeckmieaaDoorEntAwake
import Derived.Test.YtpgjifbeckmieaaDoorBookAny
import Derived.Test.YtpgjifbeckmieaaDoorLawMove
import Derived.Test.YtpgjifbeckmieaaDoorEntSame
namespace Go.Proofs.YtpgjifbeckmieaaDoor
open Go Go.RowKit
set_option linter.unusedVariables false

theorem i8_in {b : Int} (h : (Lit.int .i8 b).wf = true) : -128 ≤ b ∧ b ≤ 127 := by
  simp only [Lit.wf, Bool.and_eq_true, decide_eq_true_eq] at h
  have e1 : IntKind.i8.min = -128 := rfl
  have e2 : IntKind.i8.max = 127 := rfl
  omega

theorem number_of (n : Int) (w : World) (hh : HasErr w) : Calls Tryd.prog 9 #[errV n] w fun e w' => e = .returned (.int .i64 n) ∧ Below w.heap.size w w' := by
  unfold errV
  by_cases h : n = 0
  · rw [if_pos h, h]; exact number_nil w
  · rw [if_neg h]; exact number_err n w hh

set_option maxRecDepth 100000 in
set_option maxHeartbeats 4000000 in
theorem entryMove_walk (w : World) (v : Value) (hv : BookAt w v) (f : Int) (wf : (Lit.int .i8 f).wf = true) (t : Int) (wt : (Lit.int .i8 t).wf = true) (x : Int) (wx : (Lit.int .i64 x).wf = true) (hh : HasErr w) :
    Calls Tryd.prog 3 #[v, .int .i8 f, .int .i8 t, .int .i64 x] w fun e w' => e = .returned (.bool true) ∧ Below w.heap.size w w' := by
  obtain ⟨CA, HA, LA, cl, cc, hl, hc, ll, lc, cs, hs, ls, rfl, _⟩ := hv.form
  obtain ⟨f0, f1⟩ := i8_in wf
  obtain ⟨t0, t1⟩ := i8_in wt
  have HV := Lib.hid hv
  have HH := Lib.hid hh
  clear hv wf wt wx hh
  go_enter Tryd.func3, Tryd.ntmps3
  go_wp2_with fail
  have hb0 := (Below.refl w.heap.size w).alloc (Nat.le_refl _) (.cells #[.slice CA cl cc, .slice HA hl hc, .slice LA ll lc] 25)
  refine (awake_ok _).mono ?_
  rintro e w1 ⟨rfl, hb1⟩
  have k0 : w1.cell? ⟨w.heap.size, 0, none⟩ = some (.slice CA cl cc) := by rw [hb1.cell (by simp)]; simp
  have k1 : w1.cell? ⟨w.heap.size, 1, none⟩ = some (.slice HA hl hc) := by rw [hb1.cell (by simp)]; simp
  have k2 : w1.cell? ⟨w.heap.size, 2, none⟩ = some (.slice LA ll lc) := by rw [hb1.cell (by simp)]; simp
  have HB1 := Lib.hid (hb0.trans (hb1.mono (by simp)))
  clear hb0 hb1
  go_wp2_with fail
  refine (book_any HV.out HB1.out).mono ?_
  rintro e w2 ⟨v2, zs, j, rfl, ho, hj, hbk, hb2⟩
  have hzl := hbk.len
  obtain ⟨n, hn⟩ : ∃ n, zs.length = n := ⟨_, rfl⟩
  obtain ⟨g, cap, hv2, hg1, hg2, hnc, hcm⟩ := ho.open_ (by omega)
  rw [hn] at hv2
  subst hv2
  have hn17 : n ≤ 17 := by omega
  have HB2 := Lib.hid (HB1.out.trans (hb2.mono HB1.out.size))
  have HM := Lib.hid (move_any (some ⟨g, 0, none⟩) n cap zs f t x w2 hn ho.rd (Curs.of_book hbk) (by omega))
  have HM2 := Lib.hid (fun W (hbw : Below w2.heap.size w2 W) => lawmove_any (some ⟨g, 0, none⟩) n cap zs f t x W hn (ho.below hbw).rd (Curs.of_book hbk) (by omega) (HH.out.below (HB2.out.trans (hbw.mono HB2.out.size))))
  clear ho hbk hb2 hn hzl k0 k1 k2 hj hnc hcm hg1 hg2
  go_wp2_with fail
  refine HM.out.mono ?_
  rintro e w3 ⟨v3, rfl, ho3, hb3⟩
  have HB3 := Lib.hid hb3
  clear hb3 HM
  go_wp2_with fail
  refine (HM2.out _ HB3.out).mono ?_
  rintro e w4 ⟨v4, rfl, ho4, hb4⟩
  obtain ⟨E, hE⟩ : ∃ E, moveE zs f t x = E := ⟨_, rfl⟩
  rw [hE]
  obtain ⟨l, hl⟩ : ∃ l, moveL zs f t x = l := ⟨_, rfl⟩
  rw [hl] at ho3 ho4
  have hll : l.length ≤ 4 := by rw [← hl]; exact moveL_len zs f t x
  obtain ⟨L, hL⟩ : ∃ L, l.length = L := ⟨_, rfl⟩
  obtain ⟨A3, c3, rfl, hr3, _⟩ := ho3.form
  obtain ⟨A4, c4, rfl, hr4, _⟩ := ho4.form
  rw [hL] at hll ⊢
  have HB4 := Lib.hid (HB3.out.trans (hb4.mono HB3.out.size))
  have HS := Lib.hid (esame_any A3 A4 L L c3 c4 l l w4 hL hL (hr3.below hb4) hr4 (by omega) (by omega))
  rw [show decide (l = l) = true from decide_eq_true rfl] at HS
  clear hb4 hr3 hr4 ho3 ho4 hE hl hL HM2
  go_wp2_with fail
  refine HS.out.mono ?_
  rintro e w5 ⟨rfl, hb5⟩
  have HB5 := Lib.hid (HB4.out.trans (hb5.mono HB4.out.size))
  clear hb5
  have HN := Lib.hid (number_of E w5 (HH.out.below (HB2.out.trans (HB5.out.mono HB2.out.size))))
  go_wp2_with fail
  refine HN.out.mono ?_
  rintro e w6 ⟨rfl, hb6⟩
  have HB6 := Lib.hid (HB5.out.trans (hb6.mono HB5.out.size))
  go_wp2
  go_ret
  exact ⟨rfl, HB2.out.trans (HB6.out.mono HB2.out.size)⟩
end Go.Proofs.YtpgjifbeckmieaaDoor
