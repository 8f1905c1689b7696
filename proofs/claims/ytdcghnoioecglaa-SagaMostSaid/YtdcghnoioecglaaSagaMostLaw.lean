/-
  The statement SagaMost by its walk, of what saga answers.
-/
import Derived.Test.YtdcghnoioecglaaSagaAwake
import Derived.Test.YtdcghnoioecglaaArgNat
import Derived.BigQuiet
import Derived.Deep.QuietTactic
import Derived.Deep.RegionWith
namespace Go.Proofs.Ytdcghnoioecglaa
open Go Go.RowKit
set_option linter.unusedVariables false

/-- What Most asks. -/
def Sg.few (s : Sg) : Prop := 0 ≤ s.rq.legs ∧ s.rq.legs ≤ 4 ∧ 0 ≤ s.leg ∧ s.leg ≤ 4 ∧ 0 ≤ s.tries ∧ s.tries ≤ 4
theorem Sg.small.few {s : Sg} (h : s.small) : s.few := by
  have h1 := h.legs
  have h2 := h.leg
  have h3 := h.tries
  unfold Sg.few
  omega
theorem Sg.small.end_small {s : Sg} (h : s.small) : (endS s).few := h.few
theorem Sg.small.turn_small {s : Sg} (h : s.small) : (turnS s 9).few := by unfold turnS; split <;> exact h.few
theorem Sg.small.turn_most {s : Sg} (h : s.small) : mostS (turnS s 9) = 1 := by
  unfold turnS
  by_cases hp : s.ph = 0
  · rw [if_pos hp]; rfl
  · rw [if_neg hp]
    unfold mostS
    rcases h.ph with h | h
    · exact absurd h hp
    · rw [if_neg hp, if_pos h]

set_option maxRecDepth 100000 in
set_option maxHeartbeats 2000000 in
theorem sagaMost_of (H : SagaFns) (w : World) (a : Nat) (ha : a < 256) (A1 : Option Addr) (n1 cap1 : Nat) (i1 : IsRecs flags (fun _ => True) w A1 n1 cap1) (A2 : Option Addr) (n2 cap2 : Nat) (i2 : IsRecs flags (fun _ => True) w A2 n2 cap2) :
    Calls Try.prog 5 #[.int .u8 (a : Int), .slice A1 n1 cap1, .slice A2 n2 cap2] w fun e w' => e = .returned (.bool true) ∧ Below w.heap.size w w' := by
  obtain ⟨bs, hl1, hr1, _, hnc1, hcm1, _⟩ := recs_list i1
  obtain ⟨cs, hl2, hr2, _, hnc2, hcm2, _⟩ := recs_list i2
  have hmx : maxLen = 9223372036854775807 := rfl
  have HR1 := Lib.hid hr1
  have HR2 := Lib.hid hr2
  have HL1 := Lib.hid hl1
  have HL2 := Lib.hid hl2
  have HN1 := Lib.hid (show n1 ≤ 9223372036854775807 by omega)
  have HA := Lib.hid (sawake_ok H)
  have HLG := Lib.hid (fun s b W => H.leg s b W)
  have HRD := Lib.hid (fun s W => H.ready s W)
  have HEN := Lib.hid (fun s W => H.end_ s W)
  have HTU := Lib.hid (fun s W => H.turn s 9 W)
  have HMO := Lib.hid (fun (s : Sg) W (h : s.few) => H.most s W h.1 h.2.1 h.2.2.1 h.2.2.2.1 h.2.2.2.2.1 h.2.2.2.2.2)
  have hn2 : n2 ≤ 9223372036854775807 := by omega
  unfold SgRes at HLG HEN HTU
  clear H hr1 hr2 hl1 hl2 i1 i2 hmx hnc1 hcm1 hnc2 hcm2
  go_enter Try.func5, Try.ntmps5
  go_wp2_with fail
  refine (HA.out _).mono ?_
  rintro _ w0 ⟨rfl, hb0⟩
  have HB0 := Lib.hid hb0
  have HR20 := Lib.hid (HR2.out.below hb0)
  have HMK := Lib.hid (make_any a ha A1 n1 cap1 bs w0 HL1.out (HR1.out.below hb0) HN1.out)
  obtain ⟨s0, hs0⟩ : ∃ s, legsS (beginS (rqL ((a % 5 : Nat) : Int))) bs = s := ⟨_, rfl⟩
  have hsm0 : s0.small := by rw [← hs0]; exact legsS_small _ _ (small_begin _ ⟨by unfold rqL; dsimp only; omega, by unfold rqL; dsimp only; omega⟩)
  rw [hs0] at HMK
  unfold SgRes Sg.val at HMK
  clear hb0 hs0
  go_wp2_with fail
  refine HMK.out.mono ?_
  rintro _ w1 ⟨rfl, hb1⟩
  obtain ⟨g, hg⟩ : ∃ g, w1.heap.size = g := ⟨_, rfl⟩
  have HX1 := Lib.hid (show Sg11 (w1.alloc (.cells #[.int .i64 s0.rq.key, .int .i64 s0.rq.op, .int .i64 s0.rq.a, .int .i64 s0.rq.b, .int .i64 s0.rq.amt, .int .i64 s0.rq.legs, .int .i64 s0.rq.til, .int .i64 s0.ph, .int .i64 s0.leg, .int .i64 s0.tries, .int .i64 s0.why] 30)) g 30 s0.rq.key s0.rq.op s0.rq.a s0.rq.b s0.rq.amt s0.rq.legs s0.rq.til s0.ph s0.leg s0.tries s0.why from hg ▸ Sg11.new w1 _ _ _ _ _ _ _ _ _ _ _ _)
  have HB1 := Lib.hid (hb1.alloc hb1.size (.cells #[.int .i64 s0.rq.key, .int .i64 s0.rq.op, .int .i64 s0.rq.a, .int .i64 s0.rq.b, .int .i64 s0.rq.amt, .int .i64 s0.rq.legs, .int .i64 s0.rq.til, .int .i64 s0.ph, .int .i64 s0.leg, .int .i64 s0.tries, .int .i64 s0.why] 30))
  have hgw : w0.heap.size ≤ g := by rw [← hg]; exact hb1.size
  clear hb1 HMK
  go_wp2
  (try simp only [hg])
  clear hg
  go_loopw [18] (fun i wr => ∃ (k : Nat) (s : Sg), k ≤ n2 ∧ i = .int .i64 (k : Int) ∧ s.small ∧ Sg11 wr g 30 s.rq.key s.rq.op s.rq.a s.rq.b s.rq.amt s.rq.legs s.rq.til s.ph s.leg s.tries s.why ∧ Below w0.heap.size w0 wr) (fun i _ => n2 - (intOf i).toNat)
  case atStart => exact ⟨0, s0, Nat.zero_le _, rfl, hsm0, HX1.out, HB1.out⟩
  case round =>
    obtain ⟨k, s, hk, rfl, hsm, hx, hbel⟩ := hrel
    have HX := Lib.hid hx
    have HB := Lib.hid hbel
    have hlt1 := hx.lt
    clear hx hbel
    by_cases hlt : k < n2
    · obtain ⟨b, hb⟩ : ∃ b, cs[k]? = some b := ⟨_, List.getElem?_eq_getElem (by rw [HL2.out]; exact hlt)⟩
      obtain ⟨ad, rfl, hat⟩ := (HR20.out.below HB.out).at_ hb
      have c0 := flag_cell hat
      clear hat hb
      by_cases hw : waitS s
      · have hph : s.ph = 0 := hw.1
        have q1 := neF hph
        have HD := Lib.hid (HRD.out s)
        rw [decide_eq_false (show ¬ readyS s from fun h => by unfold readyS at h; unfold waitS at hw; omega)] at HD
        have HL := Lib.hid (HLG.out s b)
        obtain ⟨t, ht⟩ : ∃ t, legS s b = t := ⟨_, rfl⟩
        have htm : t.small := by rw [← ht]; exact hsm.leg_ b
        have hml : mostS t < mostS s ∧ 1 ≤ mostS t := by rw [← ht]; exact most_less hsm hw b
        rw [ht] at HL
        have HMS := Lib.hid (fun W => HMO.out s W hsm.few)
        have HMT := Lib.hid (fun W => HMO.out t W htm.few)
        obtain ⟨ms, hms⟩ : ∃ x, mostS s = x := ⟨_, rfl⟩
        obtain ⟨mt, hmt⟩ : ∃ x, mostS t = x := ⟨_, rfl⟩
        rw [hms] at HMS hml
        rw [hmt] at HMT hml
        have q2 : decide (ms ≤ mt) = false := decide_eq_false (by omega)
        have q3 : decide (mt < 1) = false := decide_eq_false (by omega)
        unfold Sg.val at HL HD HMS HMT
        clear ht hms hmt hw hph hml
        obtain ⟨x0, x1, x2, x3, x4, x5, x6, x7, x8, x9, x10⟩ := HX.out.cells
        go_wp2_with fail
        refine (HD.out _).mono ?_
        rintro _ w3 ⟨rfl, hb3⟩
        have HX3 := Lib.hid (HX.out.below hb3 hlt1)
        have HB3 := Lib.hid (HB.out.trans (hb3.mono HB.out.size))
        have hlt3 := HX3.out.lt
        have e0 := HX3.out.cells
        clear x0 x1 x2 x3 x4 x5 x6 x7 x8 x9 x10 hb3 c0
        obtain ⟨x0, x1, x2, x3, x4, x5, x6, x7, x8, x9, x10⟩ := e0
        go_wp2_with fail
        refine (HL.out _).mono ?_
        rintro _ w4 ⟨rfl, hb4⟩
        have hlt4 : g < w4.heap.size := Nat.lt_of_lt_of_le hlt3 hb4.size
        have HX4 := Lib.hid ((HX3.out.below hb4 hlt3).alloc (.cells #[.int .i64 t.rq.key, .int .i64 t.rq.op, .int .i64 t.rq.a, .int .i64 t.rq.b, .int .i64 t.rq.amt, .int .i64 t.rq.legs, .int .i64 t.rq.til, .int .i64 t.ph, .int .i64 t.leg, .int .i64 t.tries, .int .i64 t.why] 30) hlt4)
        have HY4 := Lib.hid (Sg11.new w4 30 t.rq.key t.rq.op t.rq.a t.rq.b t.rq.amt t.rq.legs t.rq.til t.ph t.leg t.tries t.why)
        have HB4 := Lib.hid ((HB3.out.trans (hb4.mono HB3.out.size)).alloc (Nat.le_trans HB3.out.size hb4.size) (.cells #[.int .i64 t.rq.key, .int .i64 t.rq.op, .int .i64 t.rq.a, .int .i64 t.rq.b, .int .i64 t.rq.amt, .int .i64 t.rq.legs, .int .i64 t.rq.til, .int .i64 t.ph, .int .i64 t.leg, .int .i64 t.tries, .int .i64 t.why] 30))
        obtain ⟨d0, d1, d2, d3, d4, d5, d6, d7, d8, d9, d10⟩ := HX4.out.after (by simp; omega)
        obtain ⟨e0, e1, e2, e3, e4, e5, e6, e7, e8, e9, e10⟩ := HY4.out.after (by simp)
        clear x0 x1 x2 x3 x4 x5 x6 x7 x8 x9 x10 hb4
        go_wp2
        refine wp_region_after (by kernel_rfl) (by kernel_rfl) ?_
        repeat (go_big_quiet_step (first
          | (go_at_call_of 15 t.tries; exact after_call _ (HMT.out _))
          | (go_at_call_of 15 s.tries; exact after_call _ (HMS.out _))))
        refine wpQuiet_nil ?_
        intro _ hw'
        obtain ⟨p, rfl⟩ := hw'
        have HX5 := Lib.hid (HX4.out.below p.below (by simp; omega))
        have HY5 := Lib.hid (HY4.out.below p.below (by simp))
        have HB5 := Lib.hid (HB4.out.trans (p.below.mono HB4.out.size))
        have hz5 : w4.heap.size < p.world.heap.size := by have := p.below.size; simp at this; omega
        clear d0 d1 d2 d3 d4 d5 d6 d7 d8 d9 d10 e0 e1 e2 e3 e4 e5 e6 e7 e8 e9 e10
        generalize p.world = w5 at HX5 HY5 HB5 hz5 ⊢
        obtain ⟨d0, d1, d2, d3, d4, d5, d6, d7, d8, d9, d10⟩ := HX5.out.cells
        obtain ⟨g0, g1, g2, g3, g4, g5, g6, g7, g8, g9, g10⟩ := HX5.out.loose
        obtain ⟨e0, e1, e2, e3, e4, e5, e6, e7, e8, e9, e10⟩ := HY5.out.cells
        have HP := Lib.hid (HX5.out.put t.rq.key t.rq.op t.rq.a t.rq.b t.rq.amt t.rq.legs t.rq.til t.ph t.leg t.tries t.why)
        have HPB := Lib.hid (Sg11.put_below (g := g) HB5.out hgw t.rq.key t.rq.op t.rq.a t.rq.b t.rq.amt t.rq.legs t.rq.til t.ph t.leg t.tries t.why)
        go_wp2
        go_roundw
        case rel => exact ⟨k + 1, t, by omega, by go_num, htm, HP.out, HPB.out⟩
        case measure => simp [intOf]; omega
      · by_cases hph : s.ph = 0
        · have q1 := neF hph
          have HD := Lib.hid (HRD.out s)
          rw [decide_eq_true (show readyS s from ⟨hph, by unfold waitS at hw; omega⟩)] at HD
          unfold Sg.val at HD
          obtain ⟨x0, x1, x2, x3, x4, x5, x6, x7, x8, x9, x10⟩ := HX.out.cells
          clear hw hph
          go_wp2_with fail
          refine (HD.out _).mono ?_
          rintro _ wq ⟨rfl, hbq⟩
          have HXq := Lib.hid (HX.out.below hbq hlt1)
          have HBq := Lib.hid (HB.out.trans (hbq.mono HB.out.size))
          clear x0 x1 x2 x3 x4 x5 x6 x7 x8 x9 x10 hbq HX HB hlt1 c0
          have HX := HXq
          have HB := HBq
          have hlt1 := HX.out.lt
          clear HXq HBq
          have HE := Lib.hid (HEN.out s)
          have HT := Lib.hid (HTU.out s)
          obtain ⟨e, he⟩ : ∃ e, endS s = e := ⟨_, rfl⟩
          obtain ⟨t, ht⟩ : ∃ t, turnS s 9 = t := ⟨_, rfl⟩
          have HME := Lib.hid (fun W => HMO.out e W (by rw [← he]; exact hsm.end_small))
          have HMT := Lib.hid (fun W => HMO.out t W (by rw [← ht]; exact hsm.turn_small))
          rw [show mostS e = 0 by rw [← he]; rfl] at HME
          rw [show mostS t = 1 by rw [← ht]; exact hsm.turn_most] at HMT
          rw [he] at HE
          rw [ht] at HT
          unfold Sg.val at HME HMT HE HT
          clear he ht
          obtain ⟨x0, x1, x2, x3, x4, x5, x6, x7, x8, x9, x10⟩ := HX.out.cells
          go_wp2_with fail
          refine (HE.out _).mono ?_
          rintro _ w3 ⟨rfl, hb3⟩
          have HX3 := Lib.hid (HX.out.below hb3 hlt1)
          have HB3 := Lib.hid (HB.out.trans (hb3.mono HB.out.size))
          have hlt3 := HX3.out.lt
          clear x0 x1 x2 x3 x4 x5 x6 x7 x8 x9 x10 hb3
          go_wp2_with fail
          refine (HME.out _).mono ?_
          rintro _ w4 ⟨rfl, hb4⟩
          have HX4 := Lib.hid (HX3.out.below hb4 hlt3)
          have HB4 := Lib.hid (HB3.out.trans (hb4.mono HB3.out.size))
          obtain ⟨x0, x1, x2, x3, x4, x5, x6, x7, x8, x9, x10⟩ := HX4.out.cells
          clear hb4
          go_wp2_with fail
          refine (HT.out _).mono ?_
          rintro _ w5 ⟨rfl, hb5⟩
          have HB5 := Lib.hid (HB4.out.trans (hb5.mono HB4.out.size))
          clear hb5
          go_wp2_with fail
          refine (HMT.out _).mono ?_
          rintro _ w6 ⟨rfl, hb6⟩
          go_wp2
          go_ret
          exact ⟨rfl, HB0.out.trans ((HB5.out.trans (hb6.mono HB5.out.size)).mono HB0.out.size)⟩
        · have q1 := neT hph
          clear hw hph
          have HE := Lib.hid (HEN.out s)
          have HT := Lib.hid (HTU.out s)
          obtain ⟨e, he⟩ : ∃ e, endS s = e := ⟨_, rfl⟩
          obtain ⟨t, ht⟩ : ∃ t, turnS s 9 = t := ⟨_, rfl⟩
          have HME := Lib.hid (fun W => HMO.out e W (by rw [← he]; exact hsm.end_small))
          have HMT := Lib.hid (fun W => HMO.out t W (by rw [← ht]; exact hsm.turn_small))
          rw [show mostS e = 0 by rw [← he]; rfl] at HME
          rw [show mostS t = 1 by rw [← ht]; exact hsm.turn_most] at HMT
          rw [he] at HE
          rw [ht] at HT
          unfold Sg.val at HME HMT HE HT
          clear he ht
          obtain ⟨x0, x1, x2, x3, x4, x5, x6, x7, x8, x9, x10⟩ := HX.out.cells
          go_wp2_with fail
          refine (HE.out _).mono ?_
          rintro _ w3 ⟨rfl, hb3⟩
          have HX3 := Lib.hid (HX.out.below hb3 hlt1)
          have HB3 := Lib.hid (HB.out.trans (hb3.mono HB.out.size))
          have hlt3 := HX3.out.lt
          clear x0 x1 x2 x3 x4 x5 x6 x7 x8 x9 x10 hb3
          go_wp2_with fail
          refine (HME.out _).mono ?_
          rintro _ w4 ⟨rfl, hb4⟩
          have HX4 := Lib.hid (HX3.out.below hb4 hlt3)
          have HB4 := Lib.hid (HB3.out.trans (hb4.mono HB3.out.size))
          obtain ⟨x0, x1, x2, x3, x4, x5, x6, x7, x8, x9, x10⟩ := HX4.out.cells
          clear hb4
          go_wp2_with fail
          refine (HT.out _).mono ?_
          rintro _ w5 ⟨rfl, hb5⟩
          have HB5 := Lib.hid (HB4.out.trans (hb5.mono HB4.out.size))
          clear hb5
          go_wp2_with fail
          refine (HMT.out _).mono ?_
          rintro _ w6 ⟨rfl, hb6⟩
          go_wp2
          go_ret
          exact ⟨rfl, HB0.out.trans ((HB5.out.trans (hb6.mono HB5.out.size)).mono HB0.out.size)⟩
    · obtain rfl : k = n2 := by omega
      have HE := Lib.hid (HEN.out s)
      have HT := Lib.hid (HTU.out s)
      obtain ⟨e, he⟩ : ∃ e, endS s = e := ⟨_, rfl⟩
      obtain ⟨t, ht⟩ : ∃ t, turnS s 9 = t := ⟨_, rfl⟩
      have HME := Lib.hid (fun W => HMO.out e W (by rw [← he]; exact hsm.end_small))
      have HMT := Lib.hid (fun W => HMO.out t W (by rw [← ht]; exact hsm.turn_small))
      rw [show mostS e = 0 by rw [← he]; rfl] at HME
      rw [show mostS t = 1 by rw [← ht]; exact hsm.turn_most] at HMT
      rw [he] at HE
      rw [ht] at HT
      unfold Sg.val at HME HMT HE HT
      clear he ht
      obtain ⟨x0, x1, x2, x3, x4, x5, x6, x7, x8, x9, x10⟩ := HX.out.cells
      go_wp2_with fail
      refine (HE.out _).mono ?_
      rintro _ w3 ⟨rfl, hb3⟩
      have HX3 := Lib.hid (HX.out.below hb3 hlt1)
      have HB3 := Lib.hid (HB.out.trans (hb3.mono HB.out.size))
      have hlt3 := HX3.out.lt
      clear x0 x1 x2 x3 x4 x5 x6 x7 x8 x9 x10 hb3
      go_wp2_with fail
      refine (HME.out _).mono ?_
      rintro _ w4 ⟨rfl, hb4⟩
      have HX4 := Lib.hid (HX3.out.below hb4 hlt3)
      have HB4 := Lib.hid (HB3.out.trans (hb4.mono HB3.out.size))
      obtain ⟨x0, x1, x2, x3, x4, x5, x6, x7, x8, x9, x10⟩ := HX4.out.cells
      clear hb4
      go_wp2_with fail
      refine (HT.out _).mono ?_
      rintro _ w5 ⟨rfl, hb5⟩
      have HB5 := Lib.hid (HB4.out.trans (hb5.mono HB4.out.size))
      clear hb5
      go_wp2_with fail
      refine (HMT.out _).mono ?_
      rintro _ w6 ⟨rfl, hb6⟩
      go_wp2
      go_ret
      exact ⟨rfl, HB0.out.trans ((HB5.out.trans (hb6.mono HB5.out.size)).mono HB0.out.size)⟩
end Go.Proofs.Ytdcghnoioecglaa
