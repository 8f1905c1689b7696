/-
  The statement ChartRight by its walk.
-/
import Derived.Test.YtpcpocgagfpbhaaChartOfLaw
import Derived.Test.YtpcpocgagfpbhaaLawRight
import Derived.Test.YtpcpocgagfpbhaaArgNat
import Derived.RegionTactic
import Derived.BigRegion
namespace Go.Proofs.Ytpcpocgagfpbhaa
open Go Go.RowKit
set_option linter.unusedVariables false

/-- A whole account stored. -/
theorem OwnA.put {w : World} {base g n cap j : Nat} {zs : List Ac} {a : Ac} (h : OwnA w base (.slice (some ⟨g, 0, none⟩) n cap) zs) (hn : n = zs.length) (hj : zs[j]? = some a) (z : Ac) :
    OwnA (((w.setCell ⟨g, j * 3, none⟩ (.int .i64 z.cur)).setCell ⟨g, j * 3 + 1, none⟩ (.int .i64 z.bal)).setCell ⟨g, j * 3 + 2, none⟩ (.int .i64 z.held)) base (.slice (some ⟨g, 0, none⟩) n cap) (zs.set j z) := by
  have hlt : j < zs.length := (List.getElem?_eq_some_iff.1 hj).1
  have h1 := (h.set hn hj z.cur).1
  have h2 := (h1.set (j := j) (a := ⟨z.cur, a.bal, a.held⟩) (by rw [List.length_set]; exact hn) (List.getElem?_set_self hlt) z.bal).2.1
  have h3 := (h2.set (j := j) (a := ⟨z.cur, z.bal, a.held⟩) (by simp only [List.length_set]; exact hn) (List.getElem?_set_self (by rw [List.length_set]; exact hlt)) z.held).2.2
  simp only [List.set_set] at h3
  exact h3

set_option maxRecDepth 100000 in
set_option maxHeartbeats 4000000 in
theorem chartRight_walk (w : World) (v : Value) (hv : BookAt w v) (at_ : Int) (wat : (Lit.int .u8 at_).wf = true) (z : Ac) (hz : z.fits) (A : Option Addr) (len cap0 : Nat) (hA : IsAccs w A len cap0) :
    Calls Try.prog 3 #[v, .int .u8 at_, .agg #[.int .i64 z.cur, .int .i64 z.bal, .int .i64 z.held], .slice A len cap0] w fun e w' => e = .returned (.bool true) ∧ Below w.heap.size w w' := by
  obtain ⟨CA, HA, LA, cl, cc, hl, hc, ll, lc, cs, hs, ls, rfl, _⟩ := hv.form
  obtain ⟨raw, hrl, hraw, _, hlc, hcm0, _⟩ := accs_list hA
  obtain ⟨m, rfl, hm⟩ := u8_nat wat
  have hlen : len ≤ 9223372036854775807 := by unfold maxLen at hcm0; omega
  obtain ⟨zc, zb, zl⟩ := z
  dsimp only
  have HV := Lib.hid hv
  have HRL := Lib.hid hrl
  have HRAW := Lib.hid hraw
  clear wat hv hA hz hrl hraw hlc hcm0
  go_enter Try.func3, Try.ntmps3
  go_wp2_with fail
  have hb0 := ((Below.refl w.heap.size w).alloc (Nat.le_refl _) (.cells #[.slice CA cl cc, .slice HA hl hc, .slice LA ll lc] 25)).alloc (by simp) (.cells #[.int .i64 zc, .int .i64 zb, .int .i64 zl] 27)
  refine (awake_ok _).mono ?_
  rintro e w1 ⟨rfl, hb1⟩
  have k0 : w1.cell? ⟨w.heap.size, 0, none⟩ = some (.slice CA cl cc) := by rw [hb1.cell (by simp; omega)]; simp
  have k1 : w1.cell? ⟨w.heap.size, 1, none⟩ = some (.slice HA hl hc) := by rw [hb1.cell (by simp; omega)]; simp
  have k2 : w1.cell? ⟨w.heap.size, 2, none⟩ = some (.slice LA ll lc) := by rw [hb1.cell (by simp; omega)]; simp
  have t0 : w1.cell? ⟨w.heap.size + 1, 0, none⟩ = some (.int .i64 zc) := by rw [hb1.cell (by simp)]; simp
  have t1 : w1.cell? ⟨w.heap.size + 1, 1, none⟩ = some (.int .i64 zb) := by rw [hb1.cell (by simp)]; simp
  have t2 : w1.cell? ⟨w.heap.size + 1, 2, none⟩ = some (.int .i64 zl) := by rw [hb1.cell (by simp)]; simp
  have hz1 : w.heap.size + 1 < w1.heap.size := by have := hb1.size; simp at this; omega
  have HB1 := Lib.hid (hb0.trans (hb1.mono (by simp; omega)))
  clear hb0 hb1
  go_wp2_with fail
  refine (book_any HV.out HB1.out).mono ?_
  rintro e w2 ⟨v2, zs, j, rfl, ho, hj, hbk, hb2⟩
  have hzl := hbk.len
  obtain ⟨n, hn⟩ : ∃ n, zs.length = n := ⟨_, rfl⟩
  obtain ⟨g, cap, hv2, hg1, hg2, hnc, hcm⟩ := ho.open_ (by omega)
  rw [hn] at hv2 hzl hnc
  subst hv2
  have hn9 : 9 ≤ n := by omega
  have hn17 : n ≤ 17 := by omega
  have HR := Lib.hid (right_any (some ⟨g, 0, none⟩) n cap zs w2 hn ho.rd (by omega))
  rw [hbk.right hj] at HR
  have HB2 := Lib.hid (HB1.out.trans (hb2.mono HB1.out.size))
  have HO := Lib.hid ho
  have HN := Lib.hid hn
  have T0 := Lib.hid (hb2.cell (p := ⟨w.heap.size + 1, 0, none⟩) (by simp; omega) |>.trans t0)
  have T1 := Lib.hid (hb2.cell (p := ⟨w.heap.size + 1, 1, none⟩) (by simp; omega) |>.trans t1)
  have T2 := Lib.hid (hb2.cell (p := ⟨w.heap.size + 1, 2, none⟩) (by simp; omega) |>.trans t2)
  have hz2 := hb2.size
  clear ho hbk hb2 hn hzl k0 k1 k2 t0 t1 t2 hj
  go_wp2_with fail
  refine HR.out.mono ?_
  rintro e w3 ⟨rfl, hb3⟩
  obtain ⟨i, hi⟩ : ∃ i : Nat, (m : Int) % (n : Int) = (i : Int) := ⟨m % n, by omega⟩
  have hin : i < n := by
    have h1 : m % n < n := Nat.mod_lt _ (by omega)
    have h2 : ((m % n : Nat) : Int) = (i : Int) := by rw [← hi]; omega
    omega
  obtain ⟨a, ha⟩ : ∃ a, zs[i]? = some a := ⟨_, List.getElem?_eq_getElem (by rw [HN.out]; exact hin)⟩
  have ho3 := HO.out.below hb3
  obtain ⟨c0, c1, c2⟩ := ho3.at_ ha
  have f0 := ho3.unfrozen HN.out.symm (i * 3)
  have f1 := ho3.unfrozen HN.out.symm (i * 3 + 1)
  have f2 := ho3.unfrozen HN.out.symm (i * 3 + 2)
  have s0 := (hb3.cell (p := ⟨w.heap.size + 1, 0, none⟩) (by simp; omega)).trans T0.out
  have s1 := (hb3.cell (p := ⟨w.heap.size + 1, 1, none⟩) (by simp; omega)).trans T1.out
  have s2 := (hb3.cell (p := ⟨w.heap.size + 1, 2, none⟩) (by simp; omega)).trans T2.out
  have hput := ho3.put HN.out.symm ha ⟨zc, zb, zl⟩
  have HPUT := Lib.hid hput
  have HB3 := Lib.hid (HB2.out.trans (hb3.mono HB2.out.size))
  have hz3 := hb3.size
  have hgw : w.heap.size ≤ g := by omega
  clear ho3 ha hput hb3
  go_wp2
  go_region
  obtain ⟨ys, hys⟩ : ∃ ys, zs.set i ⟨zc, zb, zl⟩ = ys := ⟨_, rfl⟩
  have hyl : ys.length = n := by rw [← hys, List.length_set]; exact HN.out
  rw [hys] at HPUT
  have HYL := Lib.hid hyl
  have HB4 := Lib.hid (((HB3.out.setCell (p := ⟨g, i * 3, none⟩) hgw (.int .i64 zc)).setCell (p := ⟨g, i * 3 + 1, none⟩) hgw (.int .i64 zb)).setCell (p := ⟨g, i * 3 + 2, none⟩) hgw (.int .i64 zl))
  have hf8 : ∀ W : World, (Instr.sliceAt 28 (.slice (some ⟨g, 0, none⟩) n cap) none (some (.int .i64 8)) none).run Try.prog W = .ok (.slice (some ⟨g, 0, none⟩) 8 cap) W := fun W => run_frontAcc W _ n cap 8 (by omega)
  have HB5 := Lib.hid HB4.out.drew
  have HO5 := Lib.hid (OwnA.drew HPUT.out)
  clear hys hyl HPUT HB4 c0 c1 c2 f0 f1 f2 s0 s1 s2
  generalize ((((w3.setCell ⟨g, i * 3, none⟩ (.int .i64 zc)).setCell ⟨g, i * 3 + 1, none⟩ (.int .i64 zb)).setCell ⟨g, i * 3 + 2, none⟩ (.int .i64 zl)).drew) = w4 at *
  obtain ⟨r1, hr1⟩ : ∃ r, rightB ys = r := ⟨_, rfl⟩
  obtain ⟨r2, hr2⟩ : ∃ r, rightB raw = r := ⟨_, rfl⟩
  have HR1 := Lib.hid hr1
  have HR2 := Lib.hid hr2
  have hr3 : rightB (ys.take 8) = false := rightB_short (by rw [List.length_take, HYL.out]; omega)
  have HR3 := Lib.hid hr3
  have HY8 : Hid ((ys.take 8).length = 8) := Lib.hid (by rw [List.length_take, HYL.out]; omega)
  clear hr1 hr2 hr3
  have HC1 := Lib.hid (fun W (hb : Below w4.heap.size w4 W) => right_any (some ⟨g, 0, none⟩) n cap ys W HYL.out (HO5.out.below hb).rd (by omega))
  have HC2 := Lib.hid (fun W (hb : Below w4.heap.size w4 W) => right_law (some ⟨g, 0, none⟩) n cap ys W HYL.out (HO5.out.below hb).rd (by omega))
  have HC3 := Lib.hid (fun W (hb : Below w.heap.size w W) => right_any A len cap0 raw W HRL.out (HRAW.out.below hb) hlen)
  have HC4 := Lib.hid (fun W (hb : Below w.heap.size w W) => right_law A len cap0 raw W HRL.out (HRAW.out.below hb) hlen)
  have HC5 := Lib.hid (fun W (hb : Below w4.heap.size w4 W) => right_any (some ⟨g, 0, none⟩) 8 cap (ys.take 8) W HY8.out ((HO5.out.below hb).rd.front 8) (by omega))
  rw [HR1.out] at HC1 HC2
  rw [HR2.out] at HC3 HC4
  rw [HR3.out] at HC5
  go_wp2_with fail
  refine (HC1.out _ (Below.refl _ _)).mono ?_
  rintro e w5 ⟨rfl, b5⟩
  have B5 := Lib.hid b5
  clear b5
  go_wp2_with fail
  refine (HC2.out _ B5.out).mono ?_
  rintro e w6 ⟨rfl, b6⟩
  have B6 := Lib.hid (B5.out.trans (b6.mono B5.out.size))
  have D6 := Lib.hid (HB5.out.trans (B6.out.mono HB5.out.size))
  clear b6
  go_wp2_with fail
  refine (HC3.out _ D6.out).mono ?_
  rintro e w7 ⟨rfl, b7⟩
  have B7 := Lib.hid (B6.out.trans (b7.mono B6.out.size))
  have D7 := Lib.hid (HB5.out.trans (B7.out.mono HB5.out.size))
  clear b7
  go_wp2_with fail
  refine (HC4.out _ D7.out).mono ?_
  rintro e w8 ⟨rfl, b8⟩
  have B8 := Lib.hid (B7.out.trans (b8.mono B7.out.size))
  clear b8
  go_wp2_with fail
  refine (HC5.out _ B8.out).mono ?_
  rintro e w9 ⟨rfl, b9⟩
  have B9 := Lib.hid (B8.out.trans (b9.mono B8.out.size))
  clear b9
  go_wp2
  go_ret
  exact ⟨rfl, HB5.out.trans (B9.out.mono HB5.out.size)⟩
end Go.Proofs.Ytpcpocgagfpbhaa
