/-
  The statement SagaYes by its walk, of what saga answers.
-/
import Derived.Test.YtdcghnoioecglaaSagaAwake
import Derived.Test.YtdcghnoioecglaaRowArg
import Derived.Test.YtdcghnoioecglaaArgNat
namespace Go.Proofs.Ytdcghnoioecglaa
open Go Go.RowKit
set_option linter.unusedVariables false

/-- So many legs agreed, and so many refusals of the next one. -/
def yS (x k i : Nat) : Sg := ⟨rqL (x : Int), 0, (k : Int), (i : Int), 0⟩
theorem yS_small {x k i : Nat} (hx : x < 5) (hk : k ≤ x) (hi : i ≤ 3) : (yS x k i).small :=
  ⟨by unfold yS rqL; dsimp only; omega, by unfold yS rqL; dsimp only; omega, by unfold yS; dsimp only; omega, (fun _ => by unfold yS; dsimp only; omega), .inl rfl⟩
theorem yS_wait {x k i : Nat} (hk : k < x) : waitS (yS x k i) := by unfold waitS yS rqL; dsimp only; omega
theorem yS_no {x k i : Nat} (hx : x < 5) (hk : k < x) (hi : i < 3) : legS (yS x k i) false = yS x k (i + 1) := by
  rw [legS_small (yS_small hx (by omega) (by omega)), if_pos (yS_wait hk), if_neg (by simp), if_neg (by unfold yS; dsimp only; omega)]
  unfold yS
  simp
theorem yS_yes {x k i : Nat} (hx : x < 5) (hk : k < x) (hi : i ≤ 3) : legS (yS x k i) true = yS x (k + 1) 0 := by
  rw [legS_small (yS_small hx (by omega) hi), if_pos (yS_wait hk), if_pos rfl]
  unfold yS
  simp

set_option maxRecDepth 100000 in
set_option maxHeartbeats 2000000 in
theorem sagaYes_of (H : SagaFns) (w : World) (a : Nat) (ha : a < 256) (A : Option Addr) (n cap : Nat) (zs : List Int) (hz : IsRow .u8 w A n cap zs) :
    Calls Try.prog 6 #[.int .u8 (a : Int), .slice A n cap] w fun e w' => e = .returned (.bool true) ∧ Below w.heap.size w w' := by
  obtain ⟨ns, hr, hl, hn6, hc, hm⟩ := row_bytes hz
  have hmx : maxLen = 9223372036854775807 := rfl
  rw [hmx] at hm
  obtain ⟨x, hx⟩ : ∃ x : Nat, a % 5 = x := ⟨_, rfl⟩
  have hx' : (a : Int) % 5 = (x : Int) := by omega
  have hx5 : x < 5 := by omega
  have HR := Lib.hid hr
  have HN6 := Lib.hid hn6
  have HA := Lib.hid (sawake_ok H)
  have HBG := Lib.hid (fun W => H.begin_ (rqL (x : Int)) W)
  have HLG := Lib.hid (fun s b W => H.leg s b W)
  have HRD := Lib.hid (fun s W => H.ready s W)
  have HMO := Lib.hid (fun W => H.most (yS x x 0) W (by unfold yS rqL; dsimp only; omega) (by unfold yS rqL; dsimp only; omega) (by unfold yS; dsimp only; omega) (by unfold yS; dsimp only; omega) (by unfold yS; dsimp only; omega) (by unfold yS; dsimp only; omega))
  rw [show mostS (yS x x 0) = 2 by unfold mostS yS rqL; dsimp only; rw [if_pos rfl, if_neg (by omega)]; rfl] at HMO
  rw [show beginS (rqL (x : Int)) = yS x 0 0 from rfl] at HBG
  unfold SgRes Sg.val Rq.val rqL at HBG
  unfold Sg.val at HMO HRD
  unfold SgRes at HLG
  dsimp only at HBG
  clear H hr hn6 hl hz hx hmx
  go_enter Try.func6, Try.ntmps6
  go_wp2_with fail
  refine (HA.out _).mono ?_
  rintro _ w0 ⟨rfl, hb0⟩
  have HB0 := Lib.hid hb0
  have HR0 := Lib.hid (HR.out.below hb0)
  clear hb0
  go_wp2_with fail
  refine (HBG.out _).mono ?_
  rintro _ w1 ⟨rfl, hb1⟩
  obtain ⟨g, hg⟩ : ∃ g, w1.heap.size = g := ⟨_, rfl⟩
  have HX1 := Lib.hid (show Sg11 (w1.alloc (.cells #[.int .i64 (yS x 0 0).rq.key, .int .i64 (yS x 0 0).rq.op, .int .i64 (yS x 0 0).rq.a, .int .i64 (yS x 0 0).rq.b, .int .i64 (yS x 0 0).rq.amt, .int .i64 (yS x 0 0).rq.legs, .int .i64 (yS x 0 0).rq.til, .int .i64 (yS x 0 0).ph, .int .i64 (yS x 0 0).leg, .int .i64 (yS x 0 0).tries, .int .i64 (yS x 0 0).why] 30)) g 30 _ _ _ _ _ _ _ _ _ _ _ from hg ▸ Sg11.new w1 _ _ _ _ _ _ _ _ _ _ _ _)
  have HB1 := Lib.hid ((hb1.alloc hb1.size (.cells #[.int .i64 (yS x 0 0).rq.key, .int .i64 (yS x 0 0).rq.op, .int .i64 (yS x 0 0).rq.a, .int .i64 (yS x 0 0).rq.b, .int .i64 (yS x 0 0).rq.amt, .int .i64 (yS x 0 0).rq.legs, .int .i64 (yS x 0 0).rq.til, .int .i64 (yS x 0 0).ph, .int .i64 (yS x 0 0).leg, .int .i64 (yS x 0 0).tries, .int .i64 (yS x 0 0).why] 30)))
  have hgw : w0.heap.size ≤ g := by rw [← hg]; exact hb1.size
  clear hb1 HBG
  go_wp2
  (try simp only [hg, hx'])
  clear hg
  go_loopw [6] (fun i wr => ∃ k : Nat, k ≤ x ∧ i = .int .i64 (k : Int) ∧ Sg11 wr g 30 (yS x k 0).rq.key (yS x k 0).rq.op (yS x k 0).rq.a (yS x k 0).rq.b (yS x k 0).rq.amt (yS x k 0).rq.legs (yS x k 0).rq.til (yS x k 0).ph (yS x k 0).leg (yS x k 0).tries (yS x k 0).why ∧ Below w0.heap.size w0 wr) (fun i _ => x - (intOf i).toNat)
  case atStart => exact ⟨0, Nat.zero_le _, rfl, HX1.out, HB1.out⟩
  case round =>
    obtain ⟨k, hk, rfl, hxk, hbel⟩ := hrel
    have HX := Lib.hid hxk
    have HB := Lib.hid hbel
    have hlt1 := hxk.lt
    clear hxk hbel
    by_cases hlt : k < x
    · obtain ⟨m, hm⟩ : ∃ m : Nat, m = (if k < n then ns.getD k 0 % 4 else 0) := ⟨_, rfl⟩
      have hm3 : m ≤ 3 := by rw [hm]; split <;> omega
      obtain ⟨w2, hw2⟩ : ∃ w2, w2 = wr := ⟨_, rfl⟩
      rw [← hw2] at HX HB hlt1
      have hc1 : k < n → ∃ ad, A = some ad ∧ ∃ q : Nat, wr.cell? (ad.add k) = some (.int .u8 (q : Int)) ∧ q < 256 ∧ (q : Int) % 4 = (m : Int) := fun hkn => by
        rw [← hw2]
        obtain ⟨ad, e, d⟩ := (HR0.out.below HB.out).at_ hkn
        rw [ints_getD] at d
        have h6 := getD_lt HN6.out k
        rw [if_pos hkn] at hm
        exact ⟨ad, e, _, d, h6, by omega⟩
      have hc2 : ¬ k < n → m = 0 := fun hkn => by rw [hm, if_neg hkn]
      clear hm
      by_cases hkn : k < n
      · obtain ⟨ad, rfl, q, d0, hq6, hqm⟩ := hc1 hkn
        clear hc1 hc2
        go_wp2
        (try simp only [hqm, hx'])
        go_loopw [8] (fun i wi => ∃ j : Nat, j ≤ m ∧ i = .int .i64 (j : Int) ∧ Sg11 wi g 30 (yS x k j).rq.key (yS x k j).rq.op (yS x k j).rq.a (yS x k j).rq.b (yS x k j).rq.amt (yS x k j).rq.legs (yS x k j).rq.til (yS x k j).ph (yS x k j).leg (yS x k j).tries (yS x k j).why ∧ Below w0.heap.size w0 wi) (fun i _ => m - (intOf i).toNat)
        case atStart => exact ⟨0, Nat.zero_le _, rfl, hw2 ▸ HX.out, hw2 ▸ HB.out⟩
        case round =>
          obtain ⟨j, hj, rfl, hxj, hbj⟩ := hrel
          have HXj := Lib.hid hxj
          have HBj := Lib.hid hbj
          have hltj := hxj.lt
          clear hxj hbj
          by_cases hjm : j < m
          · have HL := Lib.hid (HLG.out (yS x k j) false)
            rw [yS_no hx5 hlt (by omega)] at HL
            have HD := Lib.hid (HRD.out (yS x k j))
            rw [decide_eq_false (show ¬ readyS (yS x k j) from fun h => by have := yS_wait (x := x) (i := j) hlt; unfold readyS at h; unfold waitS at this; omega)] at HD
            unfold Sg.val at HL
            obtain ⟨s, hs⟩ : ∃ s, yS x k j = s := ⟨_, rfl⟩
            obtain ⟨t, ht⟩ : ∃ t, yS x k (j + 1) = t := ⟨_, rfl⟩
            rw [hs] at HL HD HXj
            rw [ht] at HL
            have HT := Lib.hid ht
            clear hs ht
            obtain ⟨x0, x1, x2, x3, x4, x5, x6, x7, x8, x9, x10⟩ := HXj.out.cells
            go_wp2_with fail
            refine (HD.out _).mono ?_
            rintro _ w3 ⟨rfl, hb3⟩
            have HX3 := Lib.hid (HXj.out.below hb3 hltj)
            have HB3 := Lib.hid (HBj.out.trans (hb3.mono HBj.out.size))
            have hlt3 := HX3.out.lt
            have e0 := HX3.out.cells
            clear x0 x1 x2 x3 x4 x5 x6 x7 x8 x9 x10 hb3
            obtain ⟨x0, x1, x2, x3, x4, x5, x6, x7, x8, x9, x10⟩ := e0
            go_wp2_with fail
            refine (HL.out _).mono ?_
            rintro _ w4 ⟨rfl, hb4⟩
            have HX4 := Lib.hid (HX3.out.below hb4 hlt3)
            have HB4 := Lib.hid (HB3.out.trans (hb4.mono HB3.out.size))
            obtain ⟨g0, g1, g2, g3, g4, g5, g6, g7, g8, g9, g10⟩ := HX4.out.loose
            have e0 := HX4.out.cells
            clear x0 x1 x2 x3 x4 x5 x6 x7 x8 x9 x10 hb4
            obtain ⟨x0, x1, x2, x3, x4, x5, x6, x7, x8, x9, x10⟩ := e0
            have HP := Lib.hid (HX4.out.put t.rq.key t.rq.op t.rq.a t.rq.b t.rq.amt t.rq.legs t.rq.til t.ph t.leg t.tries t.why)
            have HPB := Lib.hid (Sg11.put_below (g := g) HB4.out hgw t.rq.key t.rq.op t.rq.a t.rq.b t.rq.amt t.rq.legs t.rq.til t.ph t.leg t.tries t.why)
            go_wp2
            go_roundw
            case rel => exact ⟨j + 1, by omega, by go_num, by rw [HT.out]; exact HP.out, HPB.out⟩
            case measure => simp [intOf]; omega
          · obtain rfl : j = m := by omega
            have HL := Lib.hid (HLG.out (yS x k j) true)
            rw [yS_yes hx5 hlt (by omega)] at HL
            unfold Sg.val at HL
            obtain ⟨s, hs⟩ : ∃ s, yS x k j = s := ⟨_, rfl⟩
            obtain ⟨t, ht⟩ : ∃ t, yS x (k + 1) 0 = t := ⟨_, rfl⟩
            rw [hs] at HL HXj
            rw [ht] at HL
            have HT := Lib.hid ht
            clear hs ht
            obtain ⟨x0, x1, x2, x3, x4, x5, x6, x7, x8, x9, x10⟩ := HXj.out.cells
            go_wp2_with fail
            refine (HL.out _).mono ?_
            rintro _ w4 ⟨rfl, hb4⟩
            have HX4 := Lib.hid (HXj.out.below hb4 hltj)
            have HB4 := Lib.hid (HBj.out.trans (hb4.mono HBj.out.size))
            obtain ⟨g0, g1, g2, g3, g4, g5, g6, g7, g8, g9, g10⟩ := HX4.out.loose
            have e0 := HX4.out.cells
            clear x0 x1 x2 x3 x4 x5 x6 x7 x8 x9 x10 hb4
            obtain ⟨x0, x1, x2, x3, x4, x5, x6, x7, x8, x9, x10⟩ := e0
            have HP := Lib.hid (HX4.out.put t.rq.key t.rq.op t.rq.a t.rq.b t.rq.amt t.rq.legs t.rq.til t.ph t.leg t.tries t.why)
            have HPB := Lib.hid (Sg11.put_below (g := g) HB4.out hgw t.rq.key t.rq.op t.rq.a t.rq.b t.rq.amt t.rq.legs t.rq.til t.ph t.leg t.tries t.why)
            go_wp2
            go_roundw
            case rel => exact ⟨k + 1, by omega, by go_num, by rw [HT.out]; exact HP.out, HPB.out⟩
            case measure => simp [intOf]; omega
      · obtain rfl := hc2 hkn
        clear hc1 hc2
        go_wp2
        (try simp only [hx'])
        go_loopw [8] (fun i wi => ∃ j : Nat, j ≤ 0 ∧ i = .int .i64 (j : Int) ∧ Sg11 wi g 30 (yS x k j).rq.key (yS x k j).rq.op (yS x k j).rq.a (yS x k j).rq.b (yS x k j).rq.amt (yS x k j).rq.legs (yS x k j).rq.til (yS x k j).ph (yS x k j).leg (yS x k j).tries (yS x k j).why ∧ Below w0.heap.size w0 wi) (fun i _ => 0 - (intOf i).toNat)
        case atStart => exact ⟨0, Nat.zero_le _, rfl, hw2 ▸ HX.out, hw2 ▸ HB.out⟩
        case round =>
          obtain ⟨j, hj, rfl, hxj, hbj⟩ := hrel
          have HXj := Lib.hid hxj
          have HBj := Lib.hid hbj
          have hltj := hxj.lt
          clear hxj hbj
          by_cases hjm : j < 0
          · exact absurd hjm (by omega)
          · obtain rfl : j = 0 := by omega
            have HL := Lib.hid (HLG.out (yS x k 0) true)
            rw [yS_yes hx5 hlt (by omega)] at HL
            unfold Sg.val at HL
            obtain ⟨s, hs⟩ : ∃ s, yS x k 0 = s := ⟨_, rfl⟩
            obtain ⟨t, ht⟩ : ∃ t, yS x (k + 1) 0 = t := ⟨_, rfl⟩
            rw [hs] at HL HXj
            rw [ht] at HL
            have HT := Lib.hid ht
            clear hs ht
            obtain ⟨x0, x1, x2, x3, x4, x5, x6, x7, x8, x9, x10⟩ := HXj.out.cells
            go_wp2_with fail
            refine (HL.out _).mono ?_
            rintro _ w4 ⟨rfl, hb4⟩
            have HX4 := Lib.hid (HXj.out.below hb4 hltj)
            have HB4 := Lib.hid (HBj.out.trans (hb4.mono HBj.out.size))
            obtain ⟨g0, g1, g2, g3, g4, g5, g6, g7, g8, g9, g10⟩ := HX4.out.loose
            have e0 := HX4.out.cells
            clear x0 x1 x2 x3 x4 x5 x6 x7 x8 x9 x10 hb4
            obtain ⟨x0, x1, x2, x3, x4, x5, x6, x7, x8, x9, x10⟩ := e0
            have HP := Lib.hid (HX4.out.put t.rq.key t.rq.op t.rq.a t.rq.b t.rq.amt t.rq.legs t.rq.til t.ph t.leg t.tries t.why)
            have HPB := Lib.hid (Sg11.put_below (g := g) HB4.out hgw t.rq.key t.rq.op t.rq.a t.rq.b t.rq.amt t.rq.legs t.rq.til t.ph t.leg t.tries t.why)
            go_wp2
            go_roundw
            case rel => exact ⟨k + 1, by omega, by go_num, by rw [HT.out]; exact HP.out, HPB.out⟩
            case measure => simp [intOf]; omega
    · obtain rfl : k = x := by omega
      have HD := Lib.hid (HRD.out (yS k k 0))
      rw [decide_eq_true (show readyS (yS k k 0) from ⟨rfl, Int.le_refl _⟩)] at HD
      obtain ⟨x0, x1, x2, x3, x4, x5, x6, x7, x8, x9, x10⟩ := HX.out.cells
      have kk := beq_self_eq_true (k : Int)
      go_wp2_with fail
      refine (HD.out _).mono ?_
      rintro _ w3 ⟨rfl, hb3⟩
      have HB3 := Lib.hid (HB.out.trans (hb3.mono HB.out.size))
      have e0 := (HX.out.below hb3 hlt1).cells
      clear x0 x1 x2 x3 x4 x5 x6 x7 x8 x9 x10 hb3
      obtain ⟨x0, x1, x2, x3, x4, x5, x6, x7, x8, x9, x10⟩ := e0
      have x8' : w3.cell? ⟨g, 8, none⟩ = some (.int .i64 (k : Int)) := x8
      have x9' : w3.cell? ⟨g, 9, none⟩ = some (.int .i64 0) := x9
      go_wp2_with fail
      refine (HMO.out _).mono ?_
      rintro _ w4 ⟨rfl, hb4⟩
      go_wp2
      go_ret
      exact ⟨rfl, HB0.out.trans ((HB3.out.trans (hb4.mono HB3.out.size)).mono HB0.out.size)⟩
end Go.Proofs.Ytdcghnoioecglaa
