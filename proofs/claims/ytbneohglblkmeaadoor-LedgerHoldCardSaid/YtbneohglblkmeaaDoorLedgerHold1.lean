/-
  The statement LedgerHold where the account and the amount may be: neither is done.
-/
import Derived.Test.YtbneohglblkmeaaDoorLedgerHoldPre
namespace Go.Proofs.YtbneohglblkmeaaDoor
open Go Go.RowKit
set_option linter.unusedVariables false

set_option maxRecDepth 100000 in
set_option maxHeartbeats 8000000 in
theorem lh_1 (w : World) (CA HA LA : Option Addr) (cl cc hl hc ll lc : Nat) (zs : List Ac) (n : Nat) (hn : zs.length = n) (hn17 : n ≤ 17) (hn9 : 9 ≤ n)
    (hbook : ∀ W, Below w.heap.size w W → Calls Tryd.prog 9 #[.agg #[.slice CA cl cc, .slice HA hl hc, .slice LA ll lc]] W fun e w' => ∃ v', e = .returned v' ∧ OwnA w' W.heap.size v' zs ∧ Below W.heap.size W w')
    (K : Int) (K0 : -128 ≤ K) (K1 : K ≤ 127) (X : Int) (hh : HasErr w) (h8 : 8 < K) (h9 : K < (n : Int)) (hX0 : 1 ≤ X) (hX1 : X ≤ 1099511627776) (c b l : Int) (ha0 : zs[K.toNat]? = some ⟨c, b, l⟩) (hx0 : wrap64 (b - l) < X) (hy0 : l < X) :
    Calls Tryd.prog 4 #[.agg #[.slice CA cl cc, .slice HA hl hc, .slice LA ll lc], .int .i8 K, .int .i64 X] w fun e w' => e = .returned (.bool true) ∧ Below w.heap.size w w' := by
  have HH := Lib.hid hh
  have HBK := Lib.hid hbook
  have HN := Lib.hid hn
  have HMA := Lib.hid (fun q a hm ha => hold_may (zs := zs) (q := q) (x := X) (a := a) hm ha)
  clear hbook hn hh
  go_enter Tryd.func4, Tryd.ntmps4
  go_wp2_with fail
  have hb0 := (Below.refl w.heap.size w).alloc (Nat.le_refl _) (.cells #[.slice CA cl cc, .slice HA hl hc, .slice LA ll lc] 25)
  refine (awake_ok _ (HH.out.below hb0)).mono ?_
  rintro e w1 ⟨rfl, hb1⟩
  have k0 : w1.cell? ⟨w.heap.size, 0, none⟩ = some (.slice CA cl cc) := by rw [hb1.cell (by simp)]; simp
  have k1 : w1.cell? ⟨w.heap.size, 1, none⟩ = some (.slice HA hl hc) := by rw [hb1.cell (by simp)]; simp
  have k2 : w1.cell? ⟨w.heap.size, 2, none⟩ = some (.slice LA ll lc) := by rw [hb1.cell (by simp)]; simp
  have HB1 := Lib.hid (hb0.trans (hb1.mono (by simp)))
  clear hb0 hb1
  go_wp2_with fail
  refine (HBK.out _ HB1.out).mono ?_
  rintro e w2 ⟨v2, rfl, ho, hb2⟩
  obtain ⟨g, cap, hv2, hg1, hg2, hnc, hcm⟩ := ho.open_ (by rw [HN.out]; omega)
  rw [HN.out] at hv2
  subst hv2
  have HO := Lib.hid ho
  have HB2 := Lib.hid (HB1.out.trans (hb2.mono HB1.out.size))
  clear ho hb2 hg1 hg2 hnc hcm k0 k1 k2
  have HHD0 := Lib.hid (hold_any (some ⟨g, 0, none⟩) n cap zs K X w2 HN.out HO.out.rd (by omega) (by intro h; cases h))
  have HRE0 := Lib.hid (fun W (hb : Below w2.heap.size w2 W) => release_any (some ⟨g, 0, none⟩) n cap zs K X W HN.out (HO.out.below hb).rd (by omega) (by intro h; cases h))
  have HNU := Lib.hid (fun M W (hb : Below w2.heap.size w2 W) => number_of M W (HH.out.below (HB2.out.trans (hb.mono HB2.out.size))))
  have hd8 : decide (8 < K) = true := decide_eq_true (by omega)
  have hd9 : decide (K < (n : Int)) = true := decide_eq_true (by omega)
  have hd1 : decide (1 ≤ X) = true := decide_eq_true (by omega)
  have hd2 : decide (X ≤ 1099511627776) = true := decide_eq_true (by omega)
  obtain ⟨q, rfl⟩ : ∃ q : Nat, K = (q : Int) := ⟨K.toNat, by omega⟩
  have hqn : q < n := by omega
  have ha : zs[q]? = some ⟨c, b, l⟩ := by rw [Int.toNat_natCast] at ha0; exact ha0
  have hM : mayE zs.length (q : Int) X = 0 := by rw [HN.out]; unfold mayE; rw [if_pos (by omega), if_pos (by omega)]
  obtain ⟨m1, m2, m3, m4⟩ := HMA.out q _ hM ha
  dsimp only at m1 m2 m3 m4
  have HA := Lib.hid ha
  obtain ⟨fr, hfr⟩ : ∃ f, wrap64 (b - l) = f := ⟨_, rfl⟩
  rw [hfr] at m1 m2 hx0
  have hx := hx0
  have hy := hy0
  have hdx : decide (X ≤ fr) = false := decide_eq_false (by omega)
  have hdy : decide (X ≤ l) = false := decide_eq_false (by omega)
  clear ha ha0 hM HMA hx0 hy0
  obtain ⟨q1, q2⟩ := m1 (by omega)
  have HHD := HHD0
  rw [q1, q2] at HHD
  clear q1 q2
  obtain ⟨q3, q4⟩ := m3 (by omega)
  have HRE := Lib.hid (fun W hb => by
    have := HRE0.out W hb
    rw [q3, q4] at this
    exact this)
  clear q3 q4 m1 m2 m3 m4 HHD0 HRE0
  go_wp2_with fail
  refine HHD.out.mono ?_
  rintro e w3 ⟨v3, rfl, ho3, hb3⟩
  obtain ⟨A3, c3, rfl, _⟩ := ho3.form
  rw [show ([] : List Ac).length = 0 from rfl, show errV 3 = eno 3 from rfl]
  have HB3 := Lib.hid hb3
  have HO3 := Lib.hid ho3
  clear ho3 hb3 HHD
  go_wp2_with fail
  refine (HRE.out w3 HB3.out).mono ?_
  rintro e w4 ⟨v4, rfl, ho4, hb4⟩
  obtain ⟨A4, c4, rfl, _⟩ := ho4.form
  rw [show ([] : List Ac).length = 0 from rfl, show errV 6 = eno 6 from rfl]
  have HB4 := Lib.hid (HB3.out.trans (hb4.mono HB3.out.size))
  have HX3 := Lib.hid (HO3.out.below hb4)
  have hs34 := hb4.size
  have HX4 := Lib.hid ho4
  obtain ⟨x0, x1, x2⟩ := (HO.out.below HB4.out).at_ HA.out
  dsimp only at x0 x1 x2
  have hHW := (Below.refl w4.heap.size w4).alloc (Nat.le_refl _) (.cells #[.int .i64 c, .int .i64 b, .int .i64 l] 48)
  have HHW := Lib.hid hHW
  clear ho4 hb4 HRE HO3 hHW
  go_wp2
  go_quiet (fail)
  have HWN := Lib.hid (fun m => below_drewN HHW.out m)
  go_wp2_with fail
  refine (HNU.out 3 _ (HB4.out.trans ((HWN.out _).mono HB4.out.size))).mono ?_
  rintro e w5 ⟨rfl, hb5⟩
  have H5 := Lib.hid ((HWN.out _).trans (hb5.mono (HWN.out _).size))
  clear hb5
  go_wp2_with fail
  refine (HNU.out 6 _ (HB4.out.trans (H5.out.mono HB4.out.size))).mono ?_
  rintro e w6 ⟨rfl, hb6⟩
  have H6 := Lib.hid (H5.out.trans (hb6.mono H5.out.size))
  clear hb6
  go_wp2
  clear x0 x1 x2 hx hy hfr hX0 hX1 hdx hdy hd1 hd2 hd8 hd9
  go_loopw [136] (fun i wr => ∃ k : Nat, k ≤ n ∧ i = .int .i64 (k : Int) ∧ Below w4.heap.size w4 wr) (fun i _ => n - (intOf i).toNat)
  case atStart => exact ⟨0, Nat.zero_le _, rfl, H6.out⟩
  case round =>
    obtain ⟨k, hk, rfl, hbel⟩ := hrel
    have hsz := hbel.size
    have HBW := Lib.hid (HB4.out.trans (hbel.mono HB4.out.size))
    have HBEL := Lib.hid hbel
    clear hbel
    by_cases hlt : k < n
    · by_cases hkq : k = q
      · obtain rfl := hkq
        obtain ⟨z0, z1, z2⟩ := (HO.out.below HBW.out).at_ HA.out
        dsimp only at z0 z1 z2
        have hga := World.block_lt_of_cell? _ _ z0
        dsimp only at hga
        have hgb : ¬ g = wr.heap.size := by omega
        have hgc : ¬ g = wr.heap.size + 1 := by omega
        obtain ⟨r, hr⟩ : ∃ r, wr.heap.size = r := ⟨_, rfl⟩
        obtain ⟨wy, hwy⟩ : ∃ W, (wr.alloc (.cells #[.int .i64 c, .int .i64 b, .int .i64 l] 48)).alloc (.cells #[.int .i64 c, .int .i64 b, .int .i64 l] 48) = W := ⟨_, rfl⟩
        have y0 : wy.cell? ⟨r, 0, none⟩ = some (.int .i64 c) := by rw [← hwy, ← hr]; simp
        have y1 : wy.cell? ⟨r, 1, none⟩ = some (.int .i64 b) := by rw [← hwy, ← hr]; simp
        have y2 : wy.cell? ⟨r, 2, none⟩ = some (.int .i64 l) := by rw [← hwy, ← hr]; simp
        have y3 : wy.cell? ⟨r + 1, 0, none⟩ = some (.int .i64 c) := by rw [← hwy, ← hr]; simp
        have y4 : wy.cell? ⟨r + 1, 1, none⟩ = some (.int .i64 b) := by rw [← hwy, ← hr]; simp
        have y5 : wy.cell? ⟨r + 1, 2, none⟩ = some (.int .i64 l) := by rw [← hwy, ← hr]; simp
        have yf : wy.frozen? ⟨r, 2, none⟩ = false := by rw [← hwy, ← hr]; simp
        have yg : wy.frozen? ⟨r + 1, 2, none⟩ = false := by rw [← hwy, ← hr]; simp
        have hbw : Below w4.heap.size w4 wy := by rw [← hwy]; exact (HBEL.out.alloc hsz _).alloc (by simp; omega) _
        have hrz : w4.heap.size ≤ r := by rw [← hr]; exact hsz
        have hrr : ¬ r = r + 1 := by omega
        have hrs : ¬ r + 1 = r := by omega
        have HY := Lib.hid hbw
        have HWY := Lib.hid hwy
        have HR := Lib.hid hr
        clear hwy hr hbw
        go_wp2
        go_region
        · skip
          rw [HWY.out, HR.out]
          clear z0 z1 z2 HWY HR
          go_wp2
          go_quiet (fail)
          go_wp2
          go_roundw
          case rel => exact ⟨k + 1, by omega, by go_num, by repeat (first | exact HY.out | refine below_drewN ?_ _ | refine Below.drew ?_ | refine Below.setCell ?_ (by first | omega | (simp; omega)) _)⟩
          case measure => simp [intOf]; omega
        · skip
          rw [HWY.out, HR.out]
          clear z0 z1 z2 HWY HR
          go_wp2
          go_quiet (fail)
          go_wp2
          go_roundw
          case rel => exact ⟨k + 1, by omega, by go_num, by repeat (first | exact HY.out | refine below_drewN ?_ _ | refine Below.drew ?_ | refine Below.setCell ?_ (by first | omega | (simp; omega)) _)⟩
          case measure => simp [intOf]; omega
      · have hkq1 : ((k : Int) == (q : Int)) = false := by simp; omega
        obtain ⟨⟨kc, kb, kl⟩, hka⟩ : ∃ a, zs[k]? = some a := ⟨_, List.getElem?_eq_getElem (by rw [HN.out]; exact hlt)⟩
        obtain ⟨z0, z1, z2⟩ := (HO.out.below HBW.out).at_ hka
        dsimp only at z0 z1 z2
        have hga := World.block_lt_of_cell? _ _ z0
        dsimp only at hga
        have hgb : ¬ g = wr.heap.size := by omega
        have hgc : ¬ g = wr.heap.size + 1 := by omega
        obtain ⟨r, hr⟩ : ∃ r, wr.heap.size = r := ⟨_, rfl⟩
        obtain ⟨wy, hwy⟩ : ∃ W, (wr.alloc (.cells #[.int .i64 kc, .int .i64 kb, .int .i64 kl] 48)).alloc (.cells #[.int .i64 kc, .int .i64 kb, .int .i64 kl] 48) = W := ⟨_, rfl⟩
        have y0 : wy.cell? ⟨r, 0, none⟩ = some (.int .i64 kc) := by rw [← hwy, ← hr]; simp
        have y1 : wy.cell? ⟨r, 1, none⟩ = some (.int .i64 kb) := by rw [← hwy, ← hr]; simp
        have y2 : wy.cell? ⟨r, 2, none⟩ = some (.int .i64 kl) := by rw [← hwy, ← hr]; simp
        have y3 : wy.cell? ⟨r + 1, 0, none⟩ = some (.int .i64 kc) := by rw [← hwy, ← hr]; simp
        have y4 : wy.cell? ⟨r + 1, 1, none⟩ = some (.int .i64 kb) := by rw [← hwy, ← hr]; simp
        have y5 : wy.cell? ⟨r + 1, 2, none⟩ = some (.int .i64 kl) := by rw [← hwy, ← hr]; simp
        have yf : wy.frozen? ⟨r, 2, none⟩ = false := by rw [← hwy, ← hr]; simp
        have yg : wy.frozen? ⟨r + 1, 2, none⟩ = false := by rw [← hwy, ← hr]; simp
        have hbw : Below w4.heap.size w4 wy := by rw [← hwy]; exact (HBEL.out.alloc hsz _).alloc (by simp; omega) _
        have hrz : w4.heap.size ≤ r := by rw [← hr]; exact hsz
        have hrr : ¬ r = r + 1 := by omega
        have hrs : ¬ r + 1 = r := by omega
        have HY := Lib.hid hbw
        have HWY := Lib.hid hwy
        have HR := Lib.hid hr
        clear hwy hr hbw
        go_wp2
        go_region
        · skip
          rw [HWY.out, HR.out]
          clear z0 z1 z2 HWY HR
          go_wp2
          go_quiet (fail)
          go_wp2
          go_roundw
          case rel => exact ⟨k + 1, by omega, by go_num, by repeat (first | exact HY.out | refine below_drewN ?_ _ | refine Below.drew ?_ | refine Below.setCell ?_ (by first | omega | (simp; omega)) _)⟩
          case measure => simp [intOf]; omega
        · skip
          rw [HWY.out, HR.out]
          clear z0 z1 z2 HWY HR
          go_wp2
          go_quiet (fail)
          go_wp2
          go_roundw
          case rel => exact ⟨k + 1, by omega, by go_num, by repeat (first | exact HY.out | refine below_drewN ?_ _ | refine Below.drew ?_ | refine Below.setCell ?_ (by first | omega | (simp; omega)) _)⟩
          case measure => simp [intOf]; omega
    · obtain rfl : k = n := by omega
      go_wp2
      go_ret
      exact ⟨rfl, HB2.out.trans (HBW.out.mono HB2.out.size)⟩
end Go.Proofs.YtbneohglblkmeaaDoor
