/-
  request.Read by its contract, where seven numbers are there: the request that they are, if it may be.
-/
import Derived.Test.YtenepkhglgfpaaaReqRead
import Derived.Deep.RegionHeld3
namespace Go.Proofs.Ytenepkhglgfpaaa
open Go Go.RowKit
set_option linter.unusedVariables false

/-- What Read makes of seven numbers and bytes behind them. -/
def ReadRes (w : World) (r : Rq) (t : List Nat) (e : Ending) (w' : World) : Prop := (r.may ∧ ReadYes w r t e w') ∨ (¬ r.may ∧ ReadNo w e w')

theorem nums_cells {w : World} {A : Option Addr} {r : Rq} (h : Rd .i64 w A 7 r.nums) : ∃ ad, A = some ad ∧ ad.block < w.heap.size ∧
    w.cell? ad = some (.int .i64 r.key) ∧ w.cell? ⟨ad.block, ad.off + 1, none⟩ = some (.int .i64 r.op) ∧ w.cell? ⟨ad.block, ad.off + 2, none⟩ = some (.int .i64 r.a) ∧ w.cell? ⟨ad.block, ad.off + 3, none⟩ = some (.int .i64 r.b) ∧
    w.cell? ⟨ad.block, ad.off + 4, none⟩ = some (.int .i64 r.amt) ∧ w.cell? ⟨ad.block, ad.off + 5, none⟩ = some (.int .i64 r.legs) ∧ w.cell? ⟨ad.block, ad.off + 6, none⟩ = some (.int .i64 r.til) := by
  obtain ⟨ad, rfl, h0⟩ := h.2 (by omega)
  have hz : ad.add 0 = ad := by unfold Addr.add; split <;> simp_all
  have e0 := h0 0 (by omega)
  rw [hz] at e0
  exact ⟨ad, rfl, World.block_lt_of_cell? _ _ e0, e0, h0 1 (by omega), h0 2 (by omega), h0 3 (by omega), h0 4 (by omega), h0 5 (by omega), h0 6 (by omega)⟩

theorem Own.put7 {e : TypeId} {k : IntKind} {w : World} {B n g : Nat} {v : Value} {zs : List Int} (h : Own e k w B v n zs) (hg : g < B) (y0 y1 y2 y3 y4 y5 y6 : Int) : Own e k (((((((w.setCell ⟨g, 0, none⟩ (.int .i64 y0)).setCell ⟨g, 1, none⟩ (.int .i64 y1)).setCell ⟨g, 2, none⟩ (.int .i64 y2)).setCell ⟨g, 3, none⟩ (.int .i64 y3)).setCell ⟨g, 4, none⟩ (.int .i64 y4)).setCell ⟨g, 5, none⟩ (.int .i64 y5)).setCell ⟨g, 6, none⟩ (.int .i64 y6)) B v n zs :=
  (ownsRow_setCell_below (ownsRow_setCell_below (ownsRow_setCell_below (ownsRow_setCell_below (ownsRow_setCell_below (ownsRow_setCell_below (ownsRow_setCell_below h (a := ⟨g, 0, none⟩) hg _) (a := ⟨g, 1, none⟩) hg _) (a := ⟨g, 2, none⟩) hg _) (a := ⟨g, 3, none⟩) hg _) (a := ⟨g, 4, none⟩) hg _) (a := ⟨g, 5, none⟩) hg _) (a := ⟨g, 6, none⟩) hg _)

set_option maxRecDepth 100000 in
set_option maxHeartbeats 2000000 in
theorem read_seven (A : Option Addr) (n c : Nat) (r : Rq) (t : List Nat) (w : World) (hr : Rd .u8 w A n (ints (encs r.nums ++ t))) (hnc : n ≤ c) (hl : c ≤ maxLen) (hn : n ≤ 200000000000000) (ht : ∀ x ∈ t, x < 256) (hf : r.fits) :
    Calls Try.prog 16 #[.slice A n c] w (ReadRes w r t) := by
  have HB0 := Lib.hid ((Below.refl w.heap.size w).alloc (Nat.le_refl _) (.cells #[.int .i64 0, .int .i64 0, .int .i64 0, .int .i64 0, .int .i64 0, .int .i64 0, .int .i64 0] 24))
  have HT := Lib.hid (fun W (h : Rd .u8 W A n (ints (encs r.nums ++ t))) => take_seven A n c r t W h hnc hl hn ht hf)
  have HR := Lib.hid hr
  have HZ := Lib.hid (Rq7.new w 24 0 0 0 0 0 0 0)
  have HM := Lib.hid (fun W => rmay_any r W)
  clear hr ht hf
  go_enter Try.func16, Try.ntmps16
  go_wp2_with fail
  refine (HT.out _ (HR.out.alloc _)).mono ?_
  rintro _ w2 ⟨v, u, rfl, hov, hou, hb2⟩
  have HZ2 := Lib.hid (HZ.out.below hb2 (by simp))
  have HB2 := Lib.hid (HB0.out.trans (hb2.mono (by simp)))
  have hov : Own 3 .i64 w2 _ v 7 r.nums := hov
  obtain ⟨A7, c7, rfl, _, _, hrv, _⟩ := hov.form
  obtain ⟨Au, cu, rfl, hu1, hu2, _, _⟩ := hou.form
  have hz2 : w.heap.size + 1 ≤ w2.heap.size := by have := hb2.size; simpa using this
  have HOU := Lib.hid (show Own 5 .u8 w2 (w.heap.size + 1) (.slice Au t.length cu) t.length (ints t) from hou.less (by simp))
  obtain ⟨ad, rfl, had, q0, q1, q2, q3, q4, q5, q6⟩ := nums_cells hrv
  have had' : ¬ ad.block = w2.heap.size := by omega
  obtain ⟨key, op, a, b, amt, legs, til⟩ := r
  dsimp only at q0 q1 q2 q3 q4 q5 q6
  have hne := World.new_ne w2 ad q0
  clear hb2 hov hou hrv HT HR HZ HB0
  go_wp2
  go_region_held3 (fun w' => w'.cell? ad = some (.int .i64 key) ∧ w'.cell? ⟨ad.block, ad.off + 1, none⟩ = some (.int .i64 op) ∧ w'.cell? ⟨ad.block, ad.off + 2, none⟩ = some (.int .i64 a) ∧ w'.cell? ⟨ad.block, ad.off + 3, none⟩ = some (.int .i64 b) ∧ w'.cell? ⟨ad.block, ad.off + 4, none⟩ = some (.int .i64 amt) ∧ w'.cell? ⟨ad.block, ad.off + 5, none⟩ = some (.int .i64 legs) ∧ w'.cell? ⟨ad.block, ad.off + 6, none⟩ = some (.int .i64 til)) (go_keep) (fail)
  clear q0 q1 q2 q3 q4 q5 q6 had had' hne
  obtain ⟨W3, hW3⟩ : ∃ W3, W3 = (w2.alloc (.cells #[.int .i64 key, .int .i64 op, .int .i64 a, .int .i64 b, .int .i64 amt, .int .i64 legs, .int .i64 til] 24)).drew := ⟨_, rfl⟩
  have hN3 : Rq7 W3 w2.heap.size 24 key op a b amt legs til := by rw [hW3]; exact Rq7.new w2 _ _ _ _ _ _ _ _
  have hZ3 : Rq7 W3 w.heap.size 24 0 0 0 0 0 0 0 := by rw [hW3]; exact HZ2.out.alloc _ (by omega)
  have hB3 : Below w.heap.size w W3 := by rw [hW3]; exact (HB2.out.alloc (by omega) _).drew
  have hO3 : Own 5 .u8 W3 (w.heap.size + 1) (.slice Au t.length cu) t.length (ints t) := by rw [hW3]; exact (HOU.out.alloc _).drew
  have hs3 : W3.heap.size = w2.heap.size + 1 := by rw [hW3]; simp
  rw [← hW3]
  have HN3 := Lib.hid hN3
  have HZ3 := Lib.hid hZ3
  have HB3 := Lib.hid hB3
  have HO3 := Lib.hid hO3
  obtain ⟨n0, n1, n2, n3, n4, n5, n6⟩ := hN3.cells
  clear hN3 hZ3 hB3 hO3 hW3 HZ2 HB2 HOU
  go_wp2_with fail
  refine (HM.out _).mono ?_
  rintro _ w4 ⟨rfl, hb4⟩
  have HN4 := Lib.hid (HN3.out.below hb4 (by omega))
  have HZ4 := Lib.hid (HZ3.out.below hb4 (by omega))
  have HB4 := Lib.hid (HB3.out.trans (hb4.mono HB3.out.size))
  have HO4 := Lib.hid (HO3.out.below hb4)
  clear n0 n1 n2 n3 n4 n5 n6 hb4 HN3 HZ3 HB3 HO3 HM
  obtain ⟨c0, c1, c2, c3, c4, c5, c6⟩ := HZ4.out.cells
  obtain ⟨f0, f1, f2, f3, f4, f5, f6⟩ := HZ4.out.loose
  by_cases hm : (Rq.mk key op a b amt legs til).may
  · rw [decide_eq_true hm]
    obtain ⟨n0, n1, n2, n3, n4, n5, n6⟩ := HN4.out.cells
    have HMY := Lib.hid hm
    clear hm
    go_wp2
    refine bodyPost_ret (results_row3 (p := 2) (x := 3) (y := 4) (ty := 24) rfl _ _ w.heap.size _ _ (0, 0) _ rfl (HZ4.out.put key op a b amt legs til) Try.underlying24 rfl (by kernel_rfl)) rfl ?_
    exact .inl ⟨HMY.out, _, rfl, (HO4.out.put7 (by omega) key op a b amt legs til).less (by omega), Rq7.put_below HB4.out (Nat.le_refl _) key op a b amt legs til⟩
  · rw [decide_eq_false hm]
    have HMY := Lib.hid hm
    clear hm
    go_wp2
    refine bodyPost_ret (results_row3 (p := 2) (x := 3) (y := 4) (ty := 24) rfl _ _ w.heap.size _ _ (0, 0) _ rfl (HZ4.out.put 0 0 0 0 0 0 0) Try.underlying24 rfl (by kernel_rfl)) rfl ?_
    exact .inr ⟨HMY.out, rfl, Rq7.put_below HB4.out (Nat.le_refl _) 0 0 0 0 0 0 0⟩
end Go.Proofs.Ytenepkhglgfpaaa
