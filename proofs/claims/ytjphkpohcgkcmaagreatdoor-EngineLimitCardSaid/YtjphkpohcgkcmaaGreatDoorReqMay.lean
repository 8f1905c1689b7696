/-
  request.May by its contract.
-/
import Derived.Test.YtjphkpohcgkcmaaGreatDoorReqSmall
namespace Go.Proofs.YtjphkpohcgkcmaaGreatDoor
open Go Go.RowKit
set_option linter.unusedVariables false

/-- The seven cells of a request. -/
structure RqAt (w : World) (ad : Addr) (r : Rq) : Prop where
  c0 : w.cell? ad = some (.int .i64 r.key)
  c1 : w.cell? (ad.add 1) = some (.int .i64 r.op)
  c2 : w.cell? (ad.add 2) = some (.int .i64 r.a)
  c3 : w.cell? (ad.add 3) = some (.int .i64 r.b)
  c4 : w.cell? (ad.add 4) = some (.int .i64 r.amt)
  c5 : w.cell? (ad.add 5) = some (.int .i64 r.legs)
  c6 : w.cell? (ad.add 6) = some (.int .i64 r.til)

set_option maxRecDepth 100000 in
set_option maxHeartbeats 4000000 in
theorem rmay_any (r : Rq) (w : World) : Calls Tryz.prog 32 #[r.val] w (BoolRes w (decide r.may)) := by
  have HL := Lib.hid (fun (t : Bool) (W : World) (ht : t = decide (legsOk r)) => show Calls Tryz.prog 52 #[r.val] W (BoolRes W t) from ht ▸ mayLegs_any r W)
  have HO := Lib.hid (fun (t : Bool) (W : World) (ht : t = decide (opOk r)) => show Calls Tryz.prog 53 #[r.val] W (BoolRes W t) from ht ▸ mayOp_any r W)
  have hmay : r.may ↔ (0 ≤ r.key ∧ r.key ≤ 1073741823) ∧ legsOk r ∧ (0 ≤ r.til ∧ r.til ≤ 1073741824) ∧ opOk r := Iff.rfl
  obtain ⟨lg, hlg⟩ : ∃ lg, lg = decide (legsOk r) := ⟨_, rfl⟩
  obtain ⟨ok, hok⟩ : ∃ ok, ok = decide (opOk r) := ⟨_, rfl⟩
  obtain ⟨m, hm⟩ : ∃ m, m = decide r.may := ⟨_, rfl⟩
  have hm' : m = (decide (0 ≤ r.key ∧ r.key ≤ 1073741823) && lg && decide (0 ≤ r.til ∧ r.til ≤ 1073741824) && ok) := by
    rw [hm, hlg, hok, Bool.eq_iff_iff]
    simp only [decide_eq_true_eq, Bool.and_eq_true, hmay, and_assoc]
  rw [← hm]
  have HL := Lib.hid (fun W => HL.out lg W hlg)
  have HO := Lib.hid (fun W => HO.out ok W hok)
  clear hmay hlg hok hm
  obtain ⟨key, op, a, b, amt, legs, til⟩ := r
  unfold Rq.val at HL HO ⊢
  dsimp only at HL HO hm' ⊢
  obtain ⟨kk, hkk⟩ : ∃ t, t = decide (0 ≤ key ∧ key ≤ 1073741823) := ⟨_, rfl⟩
  obtain ⟨tt, htt⟩ : ∃ t, t = decide (0 ≤ til ∧ til ≤ 1073741824) := ⟨_, rfl⟩
  rw [← hkk, ← htt] at hm'
  have HK := Lib.hid (fun W => isFrom_is kk 0 key 1073741823 W hkk)
  have HT := Lib.hid (fun W => isFrom_is tt 0 til 1073741824 W htt)
  clear hkk htt
  have HB0 := Lib.hid ((Below.refl w.heap.size w).alloc (Nat.le_refl _) (.cells #[.int .i64 key, .int .i64 op, .int .i64 a, .int .i64 b, .int .i64 amt, .int .i64 legs, .int .i64 til] 42))
  cases kk
  · obtain rfl : m = false := by rw [hm']; rfl
    clear hm'
    go_enter Tryz.func32, Tryz.ntmps32
    go_wp2_with fail
    refine (HK.out _).mono ?_
    rintro e w1 ⟨rfl, rfl⟩
    go_wp2
    go_ret
    exact ⟨rfl, HB0.out⟩
  · go_enter Tryz.func32, Tryz.ntmps32
    go_wp2_with fail
    refine (HK.out _).mono ?_
    rintro e w1 ⟨rfl, rfl⟩
    go_wp2_with fail
    refine (HL.out _).mono ?_
    rintro e w2 ⟨rfl, hb2⟩
    have k0 : w2.cell? ⟨w.heap.size, 0, none⟩ = some (.int .i64 key) := by rw [hb2.cell (by simp)]; simp
    have k1 : w2.cell? ⟨w.heap.size, 1, none⟩ = some (.int .i64 op) := by rw [hb2.cell (by simp)]; simp
    have k2 : w2.cell? ⟨w.heap.size, 2, none⟩ = some (.int .i64 a) := by rw [hb2.cell (by simp)]; simp
    have k3 : w2.cell? ⟨w.heap.size, 3, none⟩ = some (.int .i64 b) := by rw [hb2.cell (by simp)]; simp
    have k4 : w2.cell? ⟨w.heap.size, 4, none⟩ = some (.int .i64 amt) := by rw [hb2.cell (by simp)]; simp
    have k5 : w2.cell? ⟨w.heap.size, 5, none⟩ = some (.int .i64 legs) := by rw [hb2.cell (by simp)]; simp
    have k6 : w2.cell? ⟨w.heap.size, 6, none⟩ = some (.int .i64 til) := by rw [hb2.cell (by simp)]; simp
    have HB2 := Lib.hid (HB0.out.trans (hb2.mono (by simp)))
    clear hb2
    cases lg
    · obtain rfl : m = false := by rw [hm']; rfl
      clear hm'
      go_wp2
      go_ret
      exact ⟨rfl, HB2.out⟩
    · go_wp2_with fail
      refine (HT.out _).mono ?_
      rintro e w3 ⟨rfl, rfl⟩
      cases tt
      · obtain rfl : m = false := by rw [hm']; rfl
        clear hm'
        go_wp2
        go_ret
        exact ⟨rfl, HB2.out⟩
      · obtain rfl : m = ok := by rw [hm']; cases ok <;> rfl
        clear hm'
        go_wp2_with fail
        refine (HO.out _).mono ?_
        rintro e w4 ⟨rfl, hb4⟩
        have HB4 := Lib.hid (HB2.out.trans (hb4.mono HB2.out.size))
        clear hb4
        go_wp2
        go_ret
        exact ⟨rfl, HB4.out⟩
end Go.Proofs.YtjphkpohcgkcmaaGreatDoor
