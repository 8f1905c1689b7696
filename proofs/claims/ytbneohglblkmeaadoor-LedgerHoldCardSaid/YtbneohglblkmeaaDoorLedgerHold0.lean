/-
  The statement LedgerHold where the account, or the amount, may not be.
-/
import Derived.Test.YtbneohglblkmeaaDoorLedgerHoldPre
namespace Go.Proofs.YtbneohglblkmeaaDoor
open Go Go.RowKit
set_option linter.unusedVariables false

set_option maxRecDepth 100000 in
set_option maxHeartbeats 8000000 in
theorem lh_ax (w : World) (CA HA LA : Option Addr) (cl cc hl hc ll lc : Nat) (zs : List Ac) (n : Nat) (hn : zs.length = n) (hn17 : n ≤ 17) (hn9 : 9 ≤ n)
    (hbook : ∀ W, Below w.heap.size w W → Calls Tryd.prog 9 #[.agg #[.slice CA cl cc, .slice HA hl hc, .slice LA ll lc]] W fun e w' => ∃ v', e = .returned v' ∧ OwnA w' W.heap.size v' zs ∧ Below W.heap.size W w')
    (K : Int) (K0 : -128 ≤ K) (K1 : K ≤ 127) (X : Int) (hh : HasErr w) (h8 : ¬ 8 < K) (hx1 : ¬ 1 ≤ X) :
    Calls Tryd.prog 4 #[.agg #[.slice CA cl cc, .slice HA hl hc, .slice LA ll lc], .int .i8 K, .int .i64 X] w fun e w' => e = .returned (.bool true) ∧ Below w.heap.size w w' := by
  have HH := Lib.hid hh
  have HBK := Lib.hid hbook
  have HN := Lib.hid hn
  have HMA := Lib.hid (fun q a hm ha => hold_may (zs := zs) (q := q) (x := X) (a := a) hm ha)
  clear hbook hn hh
  go_enter Tryd.func4, Tryd.ntmps4
  go_wp2_with fail
  have hb0 := (Below.refl w.heap.size w).alloc (Nat.le_refl _) (.cells #[.slice CA cl cc, .slice HA hl hc, .slice LA ll lc] 25)
  refine (awake_ok _ (HH.out.below hb0)).mono ?_
  rintro e w1 ⟨rfl, hb1⟩
  have k0 : w1.cell? ⟨w.heap.size, 0, none⟩ = some (.slice CA cl cc) := by rw [hb1.cell (by simp)]; simp
  have k1 : w1.cell? ⟨w.heap.size, 1, none⟩ = some (.slice HA hl hc) := by rw [hb1.cell (by simp)]; simp
  have k2 : w1.cell? ⟨w.heap.size, 2, none⟩ = some (.slice LA ll lc) := by rw [hb1.cell (by simp)]; simp
  have HB1 := Lib.hid (hb0.trans (hb1.mono (by simp)))
  clear hb0 hb1
  go_wp2_with fail
  refine (HBK.out _ HB1.out).mono ?_
  rintro e w2 ⟨v2, rfl, ho, hb2⟩
  obtain ⟨g, cap, hv2, hg1, hg2, hnc, hcm⟩ := ho.open_ (by rw [HN.out]; omega)
  rw [HN.out] at hv2
  subst hv2
  have HO := Lib.hid ho
  have HB2 := Lib.hid (HB1.out.trans (hb2.mono HB1.out.size))
  clear ho hb2 hg1 hg2 hnc hcm k0 k1 k2
  have HHD0 := Lib.hid (hold_any (some ⟨g, 0, none⟩) n cap zs K X w2 HN.out HO.out.rd (by omega) (by intro h; cases h))
  have HRE0 := Lib.hid (fun W (hb : Below w2.heap.size w2 W) => release_any (some ⟨g, 0, none⟩) n cap zs K X W HN.out (HO.out.below hb).rd (by omega) (by intro h; cases h))
  have HNU := Lib.hid (fun M W (hb : Below w2.heap.size w2 W) => number_of M W (HH.out.below (HB2.out.trans (hb.mono HB2.out.size))))
  have hd8 : decide (8 < K) = false := decide_eq_false (by omega)
  have hd1 : decide (1 ≤ X) = false := decide_eq_false (by omega)
  clear HMA
  have hM : mayE n K X = 2 := by unfold mayE; rw [if_neg (by omega)]
  obtain ⟨q1, q2, q3, q4⟩ := hold_not (zs := zs) (by rw [HN.out]; exact hM) (show (2 : Int) ≠ 0 by omega)
  have HHD := HHD0
  rw [q1, q2] at HHD
  have HRE := Lib.hid (fun W hb => by
    have := HRE0.out W hb
    rw [q3, q4] at this
    exact this)
  have HNM := Lib.hid (HNU.out 2)
  obtain ⟨EV, hEV⟩ : ∃ V, errV 2 = V := ⟨_, rfl⟩
  rw [hEV] at HNM
  have HEV := Lib.hid hEV
  clear hM q1 q2 q3 q4 HHD0 HRE0 HNU hEV
  go_wp2_with fail
  refine HHD.out.mono ?_
  rintro e w3 ⟨v3, rfl, ho3, hb3⟩
  obtain ⟨A3, c3, rfl, _⟩ := ho3.form
  rw [show ([] : List Ac).length = 0 from rfl, HEV.out]
  have HB3 := Lib.hid hb3
  clear ho3 hb3 HHD
  go_wp2_with fail
  refine (HRE.out w3 HB3.out).mono ?_
  rintro e w4 ⟨v4, rfl, ho4, hb4⟩
  obtain ⟨A4, c4, rfl, _⟩ := ho4.form
  rw [show ([] : List Ac).length = 0 from rfl, HEV.out]
  have HB4 := Lib.hid (HB3.out.trans (hb4.mono HB3.out.size))
  clear ho4 hb4 HRE HB3
  go_wp2_with (first
    | (go_at_call 14; refine (HNM.out _ HB4.out).mono ?_; rintro e w6 ⟨rfl, hb6⟩; have HB6 := Lib.hid (HB4.out.trans (hb6.mono HB4.out.size)); clear hb6 HB4))
  refine (HNM.out _ HB6.out).mono ?_
  rintro e w7 ⟨rfl, hb7⟩
  go_wp2
  go_ret
  exact ⟨rfl, HB2.out.trans ((HB6.out.trans (hb7.mono HB6.out.size)).mono HB2.out.size)⟩

set_option maxRecDepth 100000 in
set_option maxHeartbeats 8000000 in
theorem lh_bx (w : World) (CA HA LA : Option Addr) (cl cc hl hc ll lc : Nat) (zs : List Ac) (n : Nat) (hn : zs.length = n) (hn17 : n ≤ 17) (hn9 : 9 ≤ n)
    (hbook : ∀ W, Below w.heap.size w W → Calls Tryd.prog 9 #[.agg #[.slice CA cl cc, .slice HA hl hc, .slice LA ll lc]] W fun e w' => ∃ v', e = .returned v' ∧ OwnA w' W.heap.size v' zs ∧ Below W.heap.size W w')
    (K : Int) (K0 : -128 ≤ K) (K1 : K ≤ 127) (X : Int) (hh : HasErr w) (h8 : 8 < K) (h9 : ¬ K < (n : Int)) (hx1 : ¬ 1 ≤ X) :
    Calls Tryd.prog 4 #[.agg #[.slice CA cl cc, .slice HA hl hc, .slice LA ll lc], .int .i8 K, .int .i64 X] w fun e w' => e = .returned (.bool true) ∧ Below w.heap.size w w' := by
  have HH := Lib.hid hh
  have HBK := Lib.hid hbook
  have HN := Lib.hid hn
  have HMA := Lib.hid (fun q a hm ha => hold_may (zs := zs) (q := q) (x := X) (a := a) hm ha)
  clear hbook hn hh
  go_enter Tryd.func4, Tryd.ntmps4
  go_wp2_with fail
  have hb0 := (Below.refl w.heap.size w).alloc (Nat.le_refl _) (.cells #[.slice CA cl cc, .slice HA hl hc, .slice LA ll lc] 25)
  refine (awake_ok _ (HH.out.below hb0)).mono ?_
  rintro e w1 ⟨rfl, hb1⟩
  have k0 : w1.cell? ⟨w.heap.size, 0, none⟩ = some (.slice CA cl cc) := by rw [hb1.cell (by simp)]; simp
  have k1 : w1.cell? ⟨w.heap.size, 1, none⟩ = some (.slice HA hl hc) := by rw [hb1.cell (by simp)]; simp
  have k2 : w1.cell? ⟨w.heap.size, 2, none⟩ = some (.slice LA ll lc) := by rw [hb1.cell (by simp)]; simp
  have HB1 := Lib.hid (hb0.trans (hb1.mono (by simp)))
  clear hb0 hb1
  go_wp2_with fail
  refine (HBK.out _ HB1.out).mono ?_
  rintro e w2 ⟨v2, rfl, ho, hb2⟩
  obtain ⟨g, cap, hv2, hg1, hg2, hnc, hcm⟩ := ho.open_ (by rw [HN.out]; omega)
  rw [HN.out] at hv2
  subst hv2
  have HO := Lib.hid ho
  have HB2 := Lib.hid (HB1.out.trans (hb2.mono HB1.out.size))
  clear ho hb2 hg1 hg2 hnc hcm k0 k1 k2
  have HHD0 := Lib.hid (hold_any (some ⟨g, 0, none⟩) n cap zs K X w2 HN.out HO.out.rd (by omega) (by intro h; cases h))
  have HRE0 := Lib.hid (fun W (hb : Below w2.heap.size w2 W) => release_any (some ⟨g, 0, none⟩) n cap zs K X W HN.out (HO.out.below hb).rd (by omega) (by intro h; cases h))
  have HNU := Lib.hid (fun M W (hb : Below w2.heap.size w2 W) => number_of M W (HH.out.below (HB2.out.trans (hb.mono HB2.out.size))))
  have hd8 : decide (8 < K) = true := decide_eq_true (by omega)
  have hd9 : decide (K < (n : Int)) = false := decide_eq_false (by omega)
  have hd1 : decide (1 ≤ X) = false := decide_eq_false (by omega)
  clear HMA
  have hM : mayE n K X = 2 := by unfold mayE; rw [if_neg (by omega)]
  obtain ⟨q1, q2, q3, q4⟩ := hold_not (zs := zs) (by rw [HN.out]; exact hM) (show (2 : Int) ≠ 0 by omega)
  have HHD := HHD0
  rw [q1, q2] at HHD
  have HRE := Lib.hid (fun W hb => by
    have := HRE0.out W hb
    rw [q3, q4] at this
    exact this)
  have HNM := Lib.hid (HNU.out 2)
  obtain ⟨EV, hEV⟩ : ∃ V, errV 2 = V := ⟨_, rfl⟩
  rw [hEV] at HNM
  have HEV := Lib.hid hEV
  clear hM q1 q2 q3 q4 HHD0 HRE0 HNU hEV
  go_wp2_with fail
  refine HHD.out.mono ?_
  rintro e w3 ⟨v3, rfl, ho3, hb3⟩
  obtain ⟨A3, c3, rfl, _⟩ := ho3.form
  rw [show ([] : List Ac).length = 0 from rfl, HEV.out]
  have HB3 := Lib.hid hb3
  clear ho3 hb3 HHD
  go_wp2_with fail
  refine (HRE.out w3 HB3.out).mono ?_
  rintro e w4 ⟨v4, rfl, ho4, hb4⟩
  obtain ⟨A4, c4, rfl, _⟩ := ho4.form
  rw [show ([] : List Ac).length = 0 from rfl, HEV.out]
  have HB4 := Lib.hid (HB3.out.trans (hb4.mono HB3.out.size))
  clear ho4 hb4 HRE HB3
  go_wp2_with (first
    | (go_at_call 14; refine (HNM.out _ HB4.out).mono ?_; rintro e w6 ⟨rfl, hb6⟩; have HB6 := Lib.hid (HB4.out.trans (hb6.mono HB4.out.size)); clear hb6 HB4))
  refine (HNM.out _ HB6.out).mono ?_
  rintro e w7 ⟨rfl, hb7⟩
  go_wp2
  go_ret
  exact ⟨rfl, HB2.out.trans ((HB6.out.trans (hb7.mono HB6.out.size)).mono HB2.out.size)⟩

set_option maxRecDepth 100000 in
set_option maxHeartbeats 8000000 in
theorem lh_cx (w : World) (CA HA LA : Option Addr) (cl cc hl hc ll lc : Nat) (zs : List Ac) (n : Nat) (hn : zs.length = n) (hn17 : n ≤ 17) (hn9 : 9 ≤ n)
    (hbook : ∀ W, Below w.heap.size w W → Calls Tryd.prog 9 #[.agg #[.slice CA cl cc, .slice HA hl hc, .slice LA ll lc]] W fun e w' => ∃ v', e = .returned v' ∧ OwnA w' W.heap.size v' zs ∧ Below W.heap.size W w')
    (K : Int) (K0 : -128 ≤ K) (K1 : K ≤ 127) (X : Int) (hh : HasErr w) (h8 : 8 < K) (h9 : K < (n : Int)) (hx1 : ¬ 1 ≤ X) :
    Calls Tryd.prog 4 #[.agg #[.slice CA cl cc, .slice HA hl hc, .slice LA ll lc], .int .i8 K, .int .i64 X] w fun e w' => e = .returned (.bool true) ∧ Below w.heap.size w w' := by
  have HH := Lib.hid hh
  have HBK := Lib.hid hbook
  have HN := Lib.hid hn
  have HMA := Lib.hid (fun q a hm ha => hold_may (zs := zs) (q := q) (x := X) (a := a) hm ha)
  clear hbook hn hh
  go_enter Tryd.func4, Tryd.ntmps4
  go_wp2_with fail
  have hb0 := (Below.refl w.heap.size w).alloc (Nat.le_refl _) (.cells #[.slice CA cl cc, .slice HA hl hc, .slice LA ll lc] 25)
  refine (awake_ok _ (HH.out.below hb0)).mono ?_
  rintro e w1 ⟨rfl, hb1⟩
  have k0 : w1.cell? ⟨w.heap.size, 0, none⟩ = some (.slice CA cl cc) := by rw [hb1.cell (by simp)]; simp
  have k1 : w1.cell? ⟨w.heap.size, 1, none⟩ = some (.slice HA hl hc) := by rw [hb1.cell (by simp)]; simp
  have k2 : w1.cell? ⟨w.heap.size, 2, none⟩ = some (.slice LA ll lc) := by rw [hb1.cell (by simp)]; simp
  have HB1 := Lib.hid (hb0.trans (hb1.mono (by simp)))
  clear hb0 hb1
  go_wp2_with fail
  refine (HBK.out _ HB1.out).mono ?_
  rintro e w2 ⟨v2, rfl, ho, hb2⟩
  obtain ⟨g, cap, hv2, hg1, hg2, hnc, hcm⟩ := ho.open_ (by rw [HN.out]; omega)
  rw [HN.out] at hv2
  subst hv2
  have HO := Lib.hid ho
  have HB2 := Lib.hid (HB1.out.trans (hb2.mono HB1.out.size))
  clear ho hb2 hg1 hg2 hnc hcm k0 k1 k2
  have HHD0 := Lib.hid (hold_any (some ⟨g, 0, none⟩) n cap zs K X w2 HN.out HO.out.rd (by omega) (by intro h; cases h))
  have HRE0 := Lib.hid (fun W (hb : Below w2.heap.size w2 W) => release_any (some ⟨g, 0, none⟩) n cap zs K X W HN.out (HO.out.below hb).rd (by omega) (by intro h; cases h))
  have HNU := Lib.hid (fun M W (hb : Below w2.heap.size w2 W) => number_of M W (HH.out.below (HB2.out.trans (hb.mono HB2.out.size))))
  have hd8 : decide (8 < K) = true := decide_eq_true (by omega)
  have hd9 : decide (K < (n : Int)) = true := decide_eq_true (by omega)
  have hd1 : decide (1 ≤ X) = false := decide_eq_false (by omega)
  clear HMA
  have hM : mayE n K X = 1 := by unfold mayE; rw [if_pos (by omega), if_neg (by omega)]
  obtain ⟨q1, q2, q3, q4⟩ := hold_not (zs := zs) (by rw [HN.out]; exact hM) (show (1 : Int) ≠ 0 by omega)
  have HHD := HHD0
  rw [q1, q2] at HHD
  have HRE := Lib.hid (fun W hb => by
    have := HRE0.out W hb
    rw [q3, q4] at this
    exact this)
  have HNM := Lib.hid (HNU.out 1)
  obtain ⟨EV, hEV⟩ : ∃ V, errV 1 = V := ⟨_, rfl⟩
  rw [hEV] at HNM
  have HEV := Lib.hid hEV
  clear hM q1 q2 q3 q4 HHD0 HRE0 HNU hEV
  go_wp2_with fail
  refine HHD.out.mono ?_
  rintro e w3 ⟨v3, rfl, ho3, hb3⟩
  obtain ⟨A3, c3, rfl, _⟩ := ho3.form
  rw [show ([] : List Ac).length = 0 from rfl, HEV.out]
  have HB3 := Lib.hid hb3
  clear ho3 hb3 HHD
  go_wp2_with fail
  refine (HRE.out w3 HB3.out).mono ?_
  rintro e w4 ⟨v4, rfl, ho4, hb4⟩
  obtain ⟨A4, c4, rfl, _⟩ := ho4.form
  rw [show ([] : List Ac).length = 0 from rfl, HEV.out]
  have HB4 := Lib.hid (HB3.out.trans (hb4.mono HB3.out.size))
  clear ho4 hb4 HRE HB3
  go_wp2_with (first
    | (go_at_call 14; refine (HNM.out _ HB4.out).mono ?_; rintro e w6 ⟨rfl, hb6⟩; have HB6 := Lib.hid (HB4.out.trans (hb6.mono HB4.out.size)); clear hb6 HB4))
  refine (HNM.out _ HB6.out).mono ?_
  rintro e w7 ⟨rfl, hb7⟩
  go_wp2
  go_ret
  exact ⟨rfl, HB2.out.trans ((HB6.out.trans (hb7.mono HB6.out.size)).mono HB2.out.size)⟩

set_option maxRecDepth 100000 in
set_option maxHeartbeats 8000000 in
theorem lh_ay (w : World) (CA HA LA : Option Addr) (cl cc hl hc ll lc : Nat) (zs : List Ac) (n : Nat) (hn : zs.length = n) (hn17 : n ≤ 17) (hn9 : 9 ≤ n)
    (hbook : ∀ W, Below w.heap.size w W → Calls Tryd.prog 9 #[.agg #[.slice CA cl cc, .slice HA hl hc, .slice LA ll lc]] W fun e w' => ∃ v', e = .returned v' ∧ OwnA w' W.heap.size v' zs ∧ Below W.heap.size W w')
    (K : Int) (K0 : -128 ≤ K) (K1 : K ≤ 127) (X : Int) (hh : HasErr w) (h8 : ¬ 8 < K) (hx1 : 1 ≤ X) (hx2 : ¬ X ≤ 1099511627776) :
    Calls Tryd.prog 4 #[.agg #[.slice CA cl cc, .slice HA hl hc, .slice LA ll lc], .int .i8 K, .int .i64 X] w fun e w' => e = .returned (.bool true) ∧ Below w.heap.size w w' := by
  have HH := Lib.hid hh
  have HBK := Lib.hid hbook
  have HN := Lib.hid hn
  have HMA := Lib.hid (fun q a hm ha => hold_may (zs := zs) (q := q) (x := X) (a := a) hm ha)
  clear hbook hn hh
  go_enter Tryd.func4, Tryd.ntmps4
  go_wp2_with fail
  have hb0 := (Below.refl w.heap.size w).alloc (Nat.le_refl _) (.cells #[.slice CA cl cc, .slice HA hl hc, .slice LA ll lc] 25)
  refine (awake_ok _ (HH.out.below hb0)).mono ?_
  rintro e w1 ⟨rfl, hb1⟩
  have k0 : w1.cell? ⟨w.heap.size, 0, none⟩ = some (.slice CA cl cc) := by rw [hb1.cell (by simp)]; simp
  have k1 : w1.cell? ⟨w.heap.size, 1, none⟩ = some (.slice HA hl hc) := by rw [hb1.cell (by simp)]; simp
  have k2 : w1.cell? ⟨w.heap.size, 2, none⟩ = some (.slice LA ll lc) := by rw [hb1.cell (by simp)]; simp
  have HB1 := Lib.hid (hb0.trans (hb1.mono (by simp)))
  clear hb0 hb1
  go_wp2_with fail
  refine (HBK.out _ HB1.out).mono ?_
  rintro e w2 ⟨v2, rfl, ho, hb2⟩
  obtain ⟨g, cap, hv2, hg1, hg2, hnc, hcm⟩ := ho.open_ (by rw [HN.out]; omega)
  rw [HN.out] at hv2
  subst hv2
  have HO := Lib.hid ho
  have HB2 := Lib.hid (HB1.out.trans (hb2.mono HB1.out.size))
  clear ho hb2 hg1 hg2 hnc hcm k0 k1 k2
  have HHD0 := Lib.hid (hold_any (some ⟨g, 0, none⟩) n cap zs K X w2 HN.out HO.out.rd (by omega) (by intro h; cases h))
  have HRE0 := Lib.hid (fun W (hb : Below w2.heap.size w2 W) => release_any (some ⟨g, 0, none⟩) n cap zs K X W HN.out (HO.out.below hb).rd (by omega) (by intro h; cases h))
  have HNU := Lib.hid (fun M W (hb : Below w2.heap.size w2 W) => number_of M W (HH.out.below (HB2.out.trans (hb.mono HB2.out.size))))
  have hd8 : decide (8 < K) = false := decide_eq_false (by omega)
  have hd1 : decide (1 ≤ X) = true := decide_eq_true (by omega)
  have hd2 : decide (X ≤ 1099511627776) = false := decide_eq_false (by omega)
  clear HMA
  have hM : mayE n K X = 2 := by unfold mayE; rw [if_neg (by omega)]
  obtain ⟨q1, q2, q3, q4⟩ := hold_not (zs := zs) (by rw [HN.out]; exact hM) (show (2 : Int) ≠ 0 by omega)
  have HHD := HHD0
  rw [q1, q2] at HHD
  have HRE := Lib.hid (fun W hb => by
    have := HRE0.out W hb
    rw [q3, q4] at this
    exact this)
  have HNM := Lib.hid (HNU.out 2)
  obtain ⟨EV, hEV⟩ : ∃ V, errV 2 = V := ⟨_, rfl⟩
  rw [hEV] at HNM
  have HEV := Lib.hid hEV
  clear hM q1 q2 q3 q4 HHD0 HRE0 HNU hEV
  go_wp2_with fail
  refine HHD.out.mono ?_
  rintro e w3 ⟨v3, rfl, ho3, hb3⟩
  obtain ⟨A3, c3, rfl, _⟩ := ho3.form
  rw [show ([] : List Ac).length = 0 from rfl, HEV.out]
  have HB3 := Lib.hid hb3
  clear ho3 hb3 HHD
  go_wp2_with fail
  refine (HRE.out w3 HB3.out).mono ?_
  rintro e w4 ⟨v4, rfl, ho4, hb4⟩
  obtain ⟨A4, c4, rfl, _⟩ := ho4.form
  rw [show ([] : List Ac).length = 0 from rfl, HEV.out]
  have HB4 := Lib.hid (HB3.out.trans (hb4.mono HB3.out.size))
  clear ho4 hb4 HRE HB3
  go_wp2_with (first
    | (go_at_call 14; refine (HNM.out _ HB4.out).mono ?_; rintro e w6 ⟨rfl, hb6⟩; have HB6 := Lib.hid (HB4.out.trans (hb6.mono HB4.out.size)); clear hb6 HB4))
  refine (HNM.out _ HB6.out).mono ?_
  rintro e w7 ⟨rfl, hb7⟩
  go_wp2
  go_ret
  exact ⟨rfl, HB2.out.trans ((HB6.out.trans (hb7.mono HB6.out.size)).mono HB2.out.size)⟩

set_option maxRecDepth 100000 in
set_option maxHeartbeats 8000000 in
theorem lh_by (w : World) (CA HA LA : Option Addr) (cl cc hl hc ll lc : Nat) (zs : List Ac) (n : Nat) (hn : zs.length = n) (hn17 : n ≤ 17) (hn9 : 9 ≤ n)
    (hbook : ∀ W, Below w.heap.size w W → Calls Tryd.prog 9 #[.agg #[.slice CA cl cc, .slice HA hl hc, .slice LA ll lc]] W fun e w' => ∃ v', e = .returned v' ∧ OwnA w' W.heap.size v' zs ∧ Below W.heap.size W w')
    (K : Int) (K0 : -128 ≤ K) (K1 : K ≤ 127) (X : Int) (hh : HasErr w) (h8 : 8 < K) (h9 : ¬ K < (n : Int)) (hx1 : 1 ≤ X) (hx2 : ¬ X ≤ 1099511627776) :
    Calls Tryd.prog 4 #[.agg #[.slice CA cl cc, .slice HA hl hc, .slice LA ll lc], .int .i8 K, .int .i64 X] w fun e w' => e = .returned (.bool true) ∧ Below w.heap.size w w' := by
  have HH := Lib.hid hh
  have HBK := Lib.hid hbook
  have HN := Lib.hid hn
  have HMA := Lib.hid (fun q a hm ha => hold_may (zs := zs) (q := q) (x := X) (a := a) hm ha)
  clear hbook hn hh
  go_enter Tryd.func4, Tryd.ntmps4
  go_wp2_with fail
  have hb0 := (Below.refl w.heap.size w).alloc (Nat.le_refl _) (.cells #[.slice CA cl cc, .slice HA hl hc, .slice LA ll lc] 25)
  refine (awake_ok _ (HH.out.below hb0)).mono ?_
  rintro e w1 ⟨rfl, hb1⟩
  have k0 : w1.cell? ⟨w.heap.size, 0, none⟩ = some (.slice CA cl cc) := by rw [hb1.cell (by simp)]; simp
  have k1 : w1.cell? ⟨w.heap.size, 1, none⟩ = some (.slice HA hl hc) := by rw [hb1.cell (by simp)]; simp
  have k2 : w1.cell? ⟨w.heap.size, 2, none⟩ = some (.slice LA ll lc) := by rw [hb1.cell (by simp)]; simp
  have HB1 := Lib.hid (hb0.trans (hb1.mono (by simp)))
  clear hb0 hb1
  go_wp2_with fail
  refine (HBK.out _ HB1.out).mono ?_
  rintro e w2 ⟨v2, rfl, ho, hb2⟩
  obtain ⟨g, cap, hv2, hg1, hg2, hnc, hcm⟩ := ho.open_ (by rw [HN.out]; omega)
  rw [HN.out] at hv2
  subst hv2
  have HO := Lib.hid ho
  have HB2 := Lib.hid (HB1.out.trans (hb2.mono HB1.out.size))
  clear ho hb2 hg1 hg2 hnc hcm k0 k1 k2
  have HHD0 := Lib.hid (hold_any (some ⟨g, 0, none⟩) n cap zs K X w2 HN.out HO.out.rd (by omega) (by intro h; cases h))
  have HRE0 := Lib.hid (fun W (hb : Below w2.heap.size w2 W) => release_any (some ⟨g, 0, none⟩) n cap zs K X W HN.out (HO.out.below hb).rd (by omega) (by intro h; cases h))
  have HNU := Lib.hid (fun M W (hb : Below w2.heap.size w2 W) => number_of M W (HH.out.below (HB2.out.trans (hb.mono HB2.out.size))))
  have hd8 : decide (8 < K) = true := decide_eq_true (by omega)
  have hd9 : decide (K < (n : Int)) = false := decide_eq_false (by omega)
  have hd1 : decide (1 ≤ X) = true := decide_eq_true (by omega)
  have hd2 : decide (X ≤ 1099511627776) = false := decide_eq_false (by omega)
  clear HMA
  have hM : mayE n K X = 2 := by unfold mayE; rw [if_neg (by omega)]
  obtain ⟨q1, q2, q3, q4⟩ := hold_not (zs := zs) (by rw [HN.out]; exact hM) (show (2 : Int) ≠ 0 by omega)
  have HHD := HHD0
  rw [q1, q2] at HHD
  have HRE := Lib.hid (fun W hb => by
    have := HRE0.out W hb
    rw [q3, q4] at this
    exact this)
  have HNM := Lib.hid (HNU.out 2)
  obtain ⟨EV, hEV⟩ : ∃ V, errV 2 = V := ⟨_, rfl⟩
  rw [hEV] at HNM
  have HEV := Lib.hid hEV
  clear hM q1 q2 q3 q4 HHD0 HRE0 HNU hEV
  go_wp2_with fail
  refine HHD.out.mono ?_
  rintro e w3 ⟨v3, rfl, ho3, hb3⟩
  obtain ⟨A3, c3, rfl, _⟩ := ho3.form
  rw [show ([] : List Ac).length = 0 from rfl, HEV.out]
  have HB3 := Lib.hid hb3
  clear ho3 hb3 HHD
  go_wp2_with fail
  refine (HRE.out w3 HB3.out).mono ?_
  rintro e w4 ⟨v4, rfl, ho4, hb4⟩
  obtain ⟨A4, c4, rfl, _⟩ := ho4.form
  rw [show ([] : List Ac).length = 0 from rfl, HEV.out]
  have HB4 := Lib.hid (HB3.out.trans (hb4.mono HB3.out.size))
  clear ho4 hb4 HRE HB3
  go_wp2_with (first
    | (go_at_call 14; refine (HNM.out _ HB4.out).mono ?_; rintro e w6 ⟨rfl, hb6⟩; have HB6 := Lib.hid (HB4.out.trans (hb6.mono HB4.out.size)); clear hb6 HB4))
  refine (HNM.out _ HB6.out).mono ?_
  rintro e w7 ⟨rfl, hb7⟩
  go_wp2
  go_ret
  exact ⟨rfl, HB2.out.trans ((HB6.out.trans (hb7.mono HB6.out.size)).mono HB2.out.size)⟩

set_option maxRecDepth 100000 in
set_option maxHeartbeats 8000000 in
theorem lh_cy (w : World) (CA HA LA : Option Addr) (cl cc hl hc ll lc : Nat) (zs : List Ac) (n : Nat) (hn : zs.length = n) (hn17 : n ≤ 17) (hn9 : 9 ≤ n)
    (hbook : ∀ W, Below w.heap.size w W → Calls Tryd.prog 9 #[.agg #[.slice CA cl cc, .slice HA hl hc, .slice LA ll lc]] W fun e w' => ∃ v', e = .returned v' ∧ OwnA w' W.heap.size v' zs ∧ Below W.heap.size W w')
    (K : Int) (K0 : -128 ≤ K) (K1 : K ≤ 127) (X : Int) (hh : HasErr w) (h8 : 8 < K) (h9 : K < (n : Int)) (hx1 : 1 ≤ X) (hx2 : ¬ X ≤ 1099511627776) :
    Calls Tryd.prog 4 #[.agg #[.slice CA cl cc, .slice HA hl hc, .slice LA ll lc], .int .i8 K, .int .i64 X] w fun e w' => e = .returned (.bool true) ∧ Below w.heap.size w w' := by
  have HH := Lib.hid hh
  have HBK := Lib.hid hbook
  have HN := Lib.hid hn
  have HMA := Lib.hid (fun q a hm ha => hold_may (zs := zs) (q := q) (x := X) (a := a) hm ha)
  clear hbook hn hh
  go_enter Tryd.func4, Tryd.ntmps4
  go_wp2_with fail
  have hb0 := (Below.refl w.heap.size w).alloc (Nat.le_refl _) (.cells #[.slice CA cl cc, .slice HA hl hc, .slice LA ll lc] 25)
  refine (awake_ok _ (HH.out.below hb0)).mono ?_
  rintro e w1 ⟨rfl, hb1⟩
  have k0 : w1.cell? ⟨w.heap.size, 0, none⟩ = some (.slice CA cl cc) := by rw [hb1.cell (by simp)]; simp
  have k1 : w1.cell? ⟨w.heap.size, 1, none⟩ = some (.slice HA hl hc) := by rw [hb1.cell (by simp)]; simp
  have k2 : w1.cell? ⟨w.heap.size, 2, none⟩ = some (.slice LA ll lc) := by rw [hb1.cell (by simp)]; simp
  have HB1 := Lib.hid (hb0.trans (hb1.mono (by simp)))
  clear hb0 hb1
  go_wp2_with fail
  refine (HBK.out _ HB1.out).mono ?_
  rintro e w2 ⟨v2, rfl, ho, hb2⟩
  obtain ⟨g, cap, hv2, hg1, hg2, hnc, hcm⟩ := ho.open_ (by rw [HN.out]; omega)
  rw [HN.out] at hv2
  subst hv2
  have HO := Lib.hid ho
  have HB2 := Lib.hid (HB1.out.trans (hb2.mono HB1.out.size))
  clear ho hb2 hg1 hg2 hnc hcm k0 k1 k2
  have HHD0 := Lib.hid (hold_any (some ⟨g, 0, none⟩) n cap zs K X w2 HN.out HO.out.rd (by omega) (by intro h; cases h))
  have HRE0 := Lib.hid (fun W (hb : Below w2.heap.size w2 W) => release_any (some ⟨g, 0, none⟩) n cap zs K X W HN.out (HO.out.below hb).rd (by omega) (by intro h; cases h))
  have HNU := Lib.hid (fun M W (hb : Below w2.heap.size w2 W) => number_of M W (HH.out.below (HB2.out.trans (hb.mono HB2.out.size))))
  have hd8 : decide (8 < K) = true := decide_eq_true (by omega)
  have hd9 : decide (K < (n : Int)) = true := decide_eq_true (by omega)
  have hd1 : decide (1 ≤ X) = true := decide_eq_true (by omega)
  have hd2 : decide (X ≤ 1099511627776) = false := decide_eq_false (by omega)
  clear HMA
  have hM : mayE n K X = 1 := by unfold mayE; rw [if_pos (by omega), if_neg (by omega)]
  obtain ⟨q1, q2, q3, q4⟩ := hold_not (zs := zs) (by rw [HN.out]; exact hM) (show (1 : Int) ≠ 0 by omega)
  have HHD := HHD0
  rw [q1, q2] at HHD
  have HRE := Lib.hid (fun W hb => by
    have := HRE0.out W hb
    rw [q3, q4] at this
    exact this)
  have HNM := Lib.hid (HNU.out 1)
  obtain ⟨EV, hEV⟩ : ∃ V, errV 1 = V := ⟨_, rfl⟩
  rw [hEV] at HNM
  have HEV := Lib.hid hEV
  clear hM q1 q2 q3 q4 HHD0 HRE0 HNU hEV
  go_wp2_with fail
  refine HHD.out.mono ?_
  rintro e w3 ⟨v3, rfl, ho3, hb3⟩
  obtain ⟨A3, c3, rfl, _⟩ := ho3.form
  rw [show ([] : List Ac).length = 0 from rfl, HEV.out]
  have HB3 := Lib.hid hb3
  clear ho3 hb3 HHD
  go_wp2_with fail
  refine (HRE.out w3 HB3.out).mono ?_
  rintro e w4 ⟨v4, rfl, ho4, hb4⟩
  obtain ⟨A4, c4, rfl, _⟩ := ho4.form
  rw [show ([] : List Ac).length = 0 from rfl, HEV.out]
  have HB4 := Lib.hid (HB3.out.trans (hb4.mono HB3.out.size))
  clear ho4 hb4 HRE HB3
  go_wp2_with (first
    | (go_at_call 14; refine (HNM.out _ HB4.out).mono ?_; rintro e w6 ⟨rfl, hb6⟩; have HB6 := Lib.hid (HB4.out.trans (hb6.mono HB4.out.size)); clear hb6 HB4))
  refine (HNM.out _ HB6.out).mono ?_
  rintro e w7 ⟨rfl, hb7⟩
  go_wp2
  go_ret
  exact ⟨rfl, HB2.out.trans ((HB6.out.trans (hb7.mono HB6.out.size)).mono HB2.out.size)⟩

set_option maxRecDepth 100000 in
set_option maxHeartbeats 8000000 in
theorem lh_az (w : World) (CA HA LA : Option Addr) (cl cc hl hc ll lc : Nat) (zs : List Ac) (n : Nat) (hn : zs.length = n) (hn17 : n ≤ 17) (hn9 : 9 ≤ n)
    (hbook : ∀ W, Below w.heap.size w W → Calls Tryd.prog 9 #[.agg #[.slice CA cl cc, .slice HA hl hc, .slice LA ll lc]] W fun e w' => ∃ v', e = .returned v' ∧ OwnA w' W.heap.size v' zs ∧ Below W.heap.size W w')
    (K : Int) (K0 : -128 ≤ K) (K1 : K ≤ 127) (X : Int) (hh : HasErr w) (h8 : ¬ 8 < K) (hx1 : 1 ≤ X) (hx2 : X ≤ 1099511627776) :
    Calls Tryd.prog 4 #[.agg #[.slice CA cl cc, .slice HA hl hc, .slice LA ll lc], .int .i8 K, .int .i64 X] w fun e w' => e = .returned (.bool true) ∧ Below w.heap.size w w' := by
  have HH := Lib.hid hh
  have HBK := Lib.hid hbook
  have HN := Lib.hid hn
  have HMA := Lib.hid (fun q a hm ha => hold_may (zs := zs) (q := q) (x := X) (a := a) hm ha)
  clear hbook hn hh
  go_enter Tryd.func4, Tryd.ntmps4
  go_wp2_with fail
  have hb0 := (Below.refl w.heap.size w).alloc (Nat.le_refl _) (.cells #[.slice CA cl cc, .slice HA hl hc, .slice LA ll lc] 25)
  refine (awake_ok _ (HH.out.below hb0)).mono ?_
  rintro e w1 ⟨rfl, hb1⟩
  have k0 : w1.cell? ⟨w.heap.size, 0, none⟩ = some (.slice CA cl cc) := by rw [hb1.cell (by simp)]; simp
  have k1 : w1.cell? ⟨w.heap.size, 1, none⟩ = some (.slice HA hl hc) := by rw [hb1.cell (by simp)]; simp
  have k2 : w1.cell? ⟨w.heap.size, 2, none⟩ = some (.slice LA ll lc) := by rw [hb1.cell (by simp)]; simp
  have HB1 := Lib.hid (hb0.trans (hb1.mono (by simp)))
  clear hb0 hb1
  go_wp2_with fail
  refine (HBK.out _ HB1.out).mono ?_
  rintro e w2 ⟨v2, rfl, ho, hb2⟩
  obtain ⟨g, cap, hv2, hg1, hg2, hnc, hcm⟩ := ho.open_ (by rw [HN.out]; omega)
  rw [HN.out] at hv2
  subst hv2
  have HO := Lib.hid ho
  have HB2 := Lib.hid (HB1.out.trans (hb2.mono HB1.out.size))
  clear ho hb2 hg1 hg2 hnc hcm k0 k1 k2
  have HHD0 := Lib.hid (hold_any (some ⟨g, 0, none⟩) n cap zs K X w2 HN.out HO.out.rd (by omega) (by intro h; cases h))
  have HRE0 := Lib.hid (fun W (hb : Below w2.heap.size w2 W) => release_any (some ⟨g, 0, none⟩) n cap zs K X W HN.out (HO.out.below hb).rd (by omega) (by intro h; cases h))
  have HNU := Lib.hid (fun M W (hb : Below w2.heap.size w2 W) => number_of M W (HH.out.below (HB2.out.trans (hb.mono HB2.out.size))))
  have hd8 : decide (8 < K) = false := decide_eq_false (by omega)
  have hd1 : decide (1 ≤ X) = true := decide_eq_true (by omega)
  have hd2 : decide (X ≤ 1099511627776) = true := decide_eq_true (by omega)
  clear HMA
  have hM : mayE n K X = 2 := by unfold mayE; rw [if_neg (by omega)]
  obtain ⟨q1, q2, q3, q4⟩ := hold_not (zs := zs) (by rw [HN.out]; exact hM) (show (2 : Int) ≠ 0 by omega)
  have HHD := HHD0
  rw [q1, q2] at HHD
  have HRE := Lib.hid (fun W hb => by
    have := HRE0.out W hb
    rw [q3, q4] at this
    exact this)
  have HNM := Lib.hid (HNU.out 2)
  obtain ⟨EV, hEV⟩ : ∃ V, errV 2 = V := ⟨_, rfl⟩
  rw [hEV] at HNM
  have HEV := Lib.hid hEV
  clear hM q1 q2 q3 q4 HHD0 HRE0 HNU hEV
  go_wp2_with fail
  refine HHD.out.mono ?_
  rintro e w3 ⟨v3, rfl, ho3, hb3⟩
  obtain ⟨A3, c3, rfl, _⟩ := ho3.form
  rw [show ([] : List Ac).length = 0 from rfl, HEV.out]
  have HB3 := Lib.hid hb3
  clear ho3 hb3 HHD
  go_wp2_with fail
  refine (HRE.out w3 HB3.out).mono ?_
  rintro e w4 ⟨v4, rfl, ho4, hb4⟩
  obtain ⟨A4, c4, rfl, _⟩ := ho4.form
  rw [show ([] : List Ac).length = 0 from rfl, HEV.out]
  have HB4 := Lib.hid (HB3.out.trans (hb4.mono HB3.out.size))
  clear ho4 hb4 HRE HB3
  go_wp2_with (first
    | (go_at_call 14; refine (HNM.out _ HB4.out).mono ?_; rintro e w6 ⟨rfl, hb6⟩; have HB6 := Lib.hid (HB4.out.trans (hb6.mono HB4.out.size)); clear hb6 HB4))
  refine (HNM.out _ HB6.out).mono ?_
  rintro e w7 ⟨rfl, hb7⟩
  go_wp2
  go_ret
  exact ⟨rfl, HB2.out.trans ((HB6.out.trans (hb7.mono HB6.out.size)).mono HB2.out.size)⟩

set_option maxRecDepth 100000 in
set_option maxHeartbeats 8000000 in
theorem lh_bz (w : World) (CA HA LA : Option Addr) (cl cc hl hc ll lc : Nat) (zs : List Ac) (n : Nat) (hn : zs.length = n) (hn17 : n ≤ 17) (hn9 : 9 ≤ n)
    (hbook : ∀ W, Below w.heap.size w W → Calls Tryd.prog 9 #[.agg #[.slice CA cl cc, .slice HA hl hc, .slice LA ll lc]] W fun e w' => ∃ v', e = .returned v' ∧ OwnA w' W.heap.size v' zs ∧ Below W.heap.size W w')
    (K : Int) (K0 : -128 ≤ K) (K1 : K ≤ 127) (X : Int) (hh : HasErr w) (h8 : 8 < K) (h9 : ¬ K < (n : Int)) (hx1 : 1 ≤ X) (hx2 : X ≤ 1099511627776) :
    Calls Tryd.prog 4 #[.agg #[.slice CA cl cc, .slice HA hl hc, .slice LA ll lc], .int .i8 K, .int .i64 X] w fun e w' => e = .returned (.bool true) ∧ Below w.heap.size w w' := by
  have HH := Lib.hid hh
  have HBK := Lib.hid hbook
  have HN := Lib.hid hn
  have HMA := Lib.hid (fun q a hm ha => hold_may (zs := zs) (q := q) (x := X) (a := a) hm ha)
  clear hbook hn hh
  go_enter Tryd.func4, Tryd.ntmps4
  go_wp2_with fail
  have hb0 := (Below.refl w.heap.size w).alloc (Nat.le_refl _) (.cells #[.slice CA cl cc, .slice HA hl hc, .slice LA ll lc] 25)
  refine (awake_ok _ (HH.out.below hb0)).mono ?_
  rintro e w1 ⟨rfl, hb1⟩
  have k0 : w1.cell? ⟨w.heap.size, 0, none⟩ = some (.slice CA cl cc) := by rw [hb1.cell (by simp)]; simp
  have k1 : w1.cell? ⟨w.heap.size, 1, none⟩ = some (.slice HA hl hc) := by rw [hb1.cell (by simp)]; simp
  have k2 : w1.cell? ⟨w.heap.size, 2, none⟩ = some (.slice LA ll lc) := by rw [hb1.cell (by simp)]; simp
  have HB1 := Lib.hid (hb0.trans (hb1.mono (by simp)))
  clear hb0 hb1
  go_wp2_with fail
  refine (HBK.out _ HB1.out).mono ?_
  rintro e w2 ⟨v2, rfl, ho, hb2⟩
  obtain ⟨g, cap, hv2, hg1, hg2, hnc, hcm⟩ := ho.open_ (by rw [HN.out]; omega)
  rw [HN.out] at hv2
  subst hv2
  have HO := Lib.hid ho
  have HB2 := Lib.hid (HB1.out.trans (hb2.mono HB1.out.size))
  clear ho hb2 hg1 hg2 hnc hcm k0 k1 k2
  have HHD0 := Lib.hid (hold_any (some ⟨g, 0, none⟩) n cap zs K X w2 HN.out HO.out.rd (by omega) (by intro h; cases h))
  have HRE0 := Lib.hid (fun W (hb : Below w2.heap.size w2 W) => release_any (some ⟨g, 0, none⟩) n cap zs K X W HN.out (HO.out.below hb).rd (by omega) (by intro h; cases h))
  have HNU := Lib.hid (fun M W (hb : Below w2.heap.size w2 W) => number_of M W (HH.out.below (HB2.out.trans (hb.mono HB2.out.size))))
  have hd8 : decide (8 < K) = true := decide_eq_true (by omega)
  have hd9 : decide (K < (n : Int)) = false := decide_eq_false (by omega)
  have hd1 : decide (1 ≤ X) = true := decide_eq_true (by omega)
  have hd2 : decide (X ≤ 1099511627776) = true := decide_eq_true (by omega)
  clear HMA
  have hM : mayE n K X = 2 := by unfold mayE; rw [if_neg (by omega)]
  obtain ⟨q1, q2, q3, q4⟩ := hold_not (zs := zs) (by rw [HN.out]; exact hM) (show (2 : Int) ≠ 0 by omega)
  have HHD := HHD0
  rw [q1, q2] at HHD
  have HRE := Lib.hid (fun W hb => by
    have := HRE0.out W hb
    rw [q3, q4] at this
    exact this)
  have HNM := Lib.hid (HNU.out 2)
  obtain ⟨EV, hEV⟩ : ∃ V, errV 2 = V := ⟨_, rfl⟩
  rw [hEV] at HNM
  have HEV := Lib.hid hEV
  clear hM q1 q2 q3 q4 HHD0 HRE0 HNU hEV
  go_wp2_with fail
  refine HHD.out.mono ?_
  rintro e w3 ⟨v3, rfl, ho3, hb3⟩
  obtain ⟨A3, c3, rfl, _⟩ := ho3.form
  rw [show ([] : List Ac).length = 0 from rfl, HEV.out]
  have HB3 := Lib.hid hb3
  clear ho3 hb3 HHD
  go_wp2_with fail
  refine (HRE.out w3 HB3.out).mono ?_
  rintro e w4 ⟨v4, rfl, ho4, hb4⟩
  obtain ⟨A4, c4, rfl, _⟩ := ho4.form
  rw [show ([] : List Ac).length = 0 from rfl, HEV.out]
  have HB4 := Lib.hid (HB3.out.trans (hb4.mono HB3.out.size))
  clear ho4 hb4 HRE HB3
  go_wp2_with (first
    | (go_at_call 14; refine (HNM.out _ HB4.out).mono ?_; rintro e w6 ⟨rfl, hb6⟩; have HB6 := Lib.hid (HB4.out.trans (hb6.mono HB4.out.size)); clear hb6 HB4))
  refine (HNM.out _ HB6.out).mono ?_
  rintro e w7 ⟨rfl, hb7⟩
  go_wp2
  go_ret
  exact ⟨rfl, HB2.out.trans ((HB6.out.trans (hb7.mono HB6.out.size)).mono HB2.out.size)⟩

end Go.Proofs.YtbneohglblkmeaaDoor
