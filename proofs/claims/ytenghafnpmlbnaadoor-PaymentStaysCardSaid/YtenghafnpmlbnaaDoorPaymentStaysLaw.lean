/-
  The statement PaymentStays by its walk.
-/
import Derived.Test.YtenghafnpmlbnaaDoorPayAwake
import Derived.Test.YtenghafnpmlbnaaDoorPaid
import Derived.Test.YtenghafnpmlbnaaDoorPayCells
import Derived.Test.YtenghafnpmlbnaaDoorPayRight
import Derived.Test.YtenghafnpmlbnaaDoorRowArg
import Derived.Test.YtenghafnpmlbnaaDoorArgNat
namespace Go.Proofs.YtenghafnpmlbnaaDoor
open Go Go.RowKit
set_option linter.unusedVariables false

theorem Py.right.left0 {p : Py} (h : p.right) : 0 ≤ leftP p := by
  rw [h.left]
  unfold Py.right at h
  split <;> omega
theorem Py.right.gave0 {p : Py} (h : p.right) : 0 ≤ gaveP p := by
  rw [h.gave]
  unfold Py.right backOk at h
  omega
theorem payP_ends (p : Py) (op n : Int) : (payP p op n).frm = p.frm ∧ (payP p op n).dst = p.dst := by
  unfold payP
  split
  · exact ⟨rfl, rfl⟩
  · split
    · exact ⟨rfl, rfl⟩
    · split
      · exact ⟨rfl, rfl⟩
      · split <;> exact ⟨rfl, rfl⟩
/-- What an act does to a right payment. -/
theorem stays_parts {p : Py} (h : p.right) (hf : p.fits) {op n : Int} (he : payE p op n = 0) {y : Py} (hy : payR p op n = y) : y.right ∧ y.fits ∧ p.cap ≤ y.cap ∧ p.ref ≤ y.ref ∧ p.chg ≤ y.chg ∧ y.aut = p.aut ∧ (p.stg = 1 → y.stg = 1) := by
  have h2 := h.stays he
  have h3 := payP_ends p op n
  unfold payR at hy
  rw [if_pos he] at hy
  rw [hy] at h2 h3
  exact ⟨h2.1, h2.1.fits (by rw [h3.1]; exact hf.1) (by rw [h3.2]; exact hf.2.1), h2.2⟩

/-- What a round of the loop begins with. -/
structure StayR (wr w2 : World) (p : Py) : Prop where
  right : p.right
  fits : p.fits
  at_ : Py8 wr w2.heap.size 28 p.frm p.dst p.aut p.cap p.ref p.chg p.til p.stg
  below : Below w2.heap.size w2 wr
  lt : w2.heap.size < wr.heap.size
theorem StayR.alloc {wr w2 : World} {p : Py} (h : StayR wr w2 p) {w5 : World} (hb : Below wr.heap.size wr w5) (o : Obj) : StayR (w5.alloc o) w2 p :=
  ⟨h.right, h.fits, (h.at_.below hb h.lt).alloc o (Nat.lt_of_lt_of_le h.lt hb.size), (h.below.trans (hb.mono (Nat.le_of_lt h.lt))).alloc (Nat.le_of_lt (Nat.lt_of_lt_of_le h.lt hb.size)) o, by rw [alloc_size]; have := h.lt; have := hb.size; omega⟩
theorem StayR.later {wr w2 : World} {p : Py} (h : StayR wr w2 p) {w5 : World} (hb : Below wr.heap.size wr w5) : StayR w5 w2 p :=
  ⟨h.right, h.fits, h.at_.below hb h.lt, h.below.trans (hb.mono (Nat.le_of_lt h.lt)), Nat.lt_of_lt_of_le h.lt hb.size⟩
theorem payR_bad {p : Py} {op n : Int} (h : ¬ payE p op n = 0) : payR p op n = Py.zero := by unfold payR; rw [if_neg h]
theorem StayR.put {w6 w2 : World} {p y : Py} (h : StayR w6 w2 p) (hr : y.right) (hf : y.fits) : StayR ((((((((w6.setCell ⟨w2.heap.size, 0, none⟩ (.int .i64 y.frm)).setCell ⟨w2.heap.size, 1, none⟩ (.int .i64 y.dst)).setCell ⟨w2.heap.size, 2, none⟩ (.int .i64 y.aut)).setCell ⟨w2.heap.size, 3, none⟩ (.int .i64 y.cap)).setCell ⟨w2.heap.size, 4, none⟩ (.int .i64 y.ref)).setCell ⟨w2.heap.size, 5, none⟩ (.int .i64 y.chg)).setCell ⟨w2.heap.size, 6, none⟩ (.int .i64 y.til)).setCell ⟨w2.heap.size, 7, none⟩ (.int .i64 y.stg)) w2 y :=
  ⟨hr, hf, h.at_.put _ _ _ _ _ _ _ _, Py8.put_below h.below (Nat.le_refl _) _ _ _ _ _ _ _ _, by simpa using h.lt⟩

set_option maxRecDepth 100000 in
set_option maxHeartbeats 2000000 in
theorem paymentStays_walk (w : World) (z : Pd) (hz : z.fits) (A1 : Option Addr) (n1 cap1 : Nat) (zs1 : List Int) (h1 : IsRow .u8 w A1 n1 cap1 zs1) (A2 : Option Addr) (n2 cap2 : Nat) (zs2 : List Int) (h2 : IsRow .u8 w A2 n2 cap2 zs2) (hh : HasErr w) :
    Calls Tryd.prog 5 #[z.val, .slice A1 n1 cap1, .slice A2 n2 cap2] w fun e w' => e = .returned (.bool true) ∧ Below w.heap.size w w' := by
  obtain ⟨os, hr1, hl1, ho1, hc1, hm1⟩ := row_bytes h1
  obtain ⟨ns, hr2, hl2, ho2, hc2, hm2⟩ := row_bytes h2
  have hmx : maxLen = 9223372036854775807 := rfl
  rw [hmx] at hm1 hm2
  have HR1 := Lib.hid hr1
  have HR2 := Lib.hid hr2
  have HL1 := Lib.hid hl1
  have HL2 := Lib.hid hl2
  have HO1 := Lib.hid ho1
  have HO2 := Lib.hid ho2
  clear hr1 hr2 hl1 hl2 ho1 ho2 h1 h2 hmx
  have hzf := z.pay_fits hz
  have HA := Lib.hid (fun W => paid_any z hz W)
  have hx := z.right hz
  obtain ⟨⟨qf, qd, qa, qc, qr, qg, qt, qs⟩, hq⟩ : ∃ q, q = z.pay := ⟨_, rfl⟩
  rw [← hq] at HA hx hzf
  obtain ⟨zf, zt, za, zc, zr, zg, zu, zl⟩ := z
  unfold PyRes Py.val at HA
  unfold Pd.val at HA ⊢
  dsimp only at HA ⊢
  have H1 := Lib.hid (Pd8.new w zf zt za zc zr zg zu zl)
  have HB0 := Lib.hid ((Below.refl w.heap.size w).alloc (Nat.le_refl _) (.cells #[.int .u8 (zf : Int), .int .u8 (zt : Int), .int .u8 (za : Int), .int .u8 (zc : Int), .int .u8 (zr : Int), .int .u8 (zg : Int), .int .u8 (zu : Int), .bool zl] 23))
  have HP := Lib.hid (pawake_ok (w.alloc (.cells #[.int .u8 (zf : Int), .int .u8 (zt : Int), .int .u8 (za : Int), .int .u8 (zc : Int), .int .u8 (zr : Int), .int .u8 (zg : Int), .int .u8 (zu : Int), .bool zl] 23)) (hh.below HB0.out))
  have HH := Lib.hid hh
  clear hq hz hh
  have HRT := Lib.hid hx
  have HFT := Lib.hid hzf
  clear hx hzf
  go_enter Tryd.func5, Tryd.ntmps5
  go_wp2_with fail
  refine HP.out.mono ?_
  rintro _ w1 ⟨rfl, hb1⟩
  obtain ⟨x0, x1, x2, x3, x4, x5, x6, x7⟩ := (H1.out.below hb1 (by simp)).cells
  have HB1 := Lib.hid (HB0.out.trans (hb1.mono (by simp)))
  clear hb1 H1 HB0 HP
  go_wp2_with fail
  refine (HA.out _).mono ?_
  rintro _ w2 ⟨rfl, hb2⟩
  have HW2 := Lib.hid (HB1.out.trans (hb2.mono HB1.out.size))
  have HX2 := Lib.hid (Py8.new w2 28 qf qd qa qc qr qg qt qs)
  have HB2 := Lib.hid ((HB1.out.trans (hb2.mono HB1.out.size)).alloc (Nat.le_trans HB1.out.size hb2.size) (.cells #[.int .i64 qf, .int .i64 qd, .int .i64 qa, .int .i64 qc, .int .i64 qr, .int .i64 qg, .int .i64 qt, .int .i64 qs] 28))
  clear x0 x1 x2 x3 x4 x5 x6 x7 hb2 HB1 HA
  have HST := Lib.hid (show StayR (w2.alloc (.cells #[.int .i64 qf, .int .i64 qd, .int .i64 qa, .int .i64 qc, .int .i64 qr, .int .i64 qg, .int .i64 qt, .int .i64 qs] 28)) w2 ⟨qf, qd, qa, qc, qr, qg, qt, qs⟩ from ⟨HRT.out, HFT.out, HX2.out, (Below.refl _ _).alloc (Nat.le_refl _) _, by simp⟩)
  clear HX2 HB2 HRT HFT HH
  go_wp2
  go_loopw [19] (fun i wr => ∃ (k : Nat) (p : Py), k ≤ n1 ∧ i = .int .i64 (k : Int) ∧ StayR wr w2 p) (fun i _ => n1 - (intOf i).toNat)
  case atStart => exact ⟨0, _, Nat.zero_le _, rfl, HST.out⟩
  case round =>
    obtain ⟨k, p, hk, rfl, hrel⟩ := hrel
    have HREL := Lib.hid hrel
    have hltr := hrel.lt
    clear hrel
    by_cases hlt : k < n1
    · obtain ⟨ad1, rfl, d1⟩ := (HR1.out.below (HW2.out.trans (HREL.out.below.mono HW2.out.size))).at_ hlt
      rw [ints_getD] at d1
      obtain ⟨o, ho⟩ : ∃ o, os.getD k 0 = o := ⟨_, rfl⟩
      have ho6 : o < 256 := ho ▸ getD_lt HO1.out k
      rw [ho] at d1
      obtain ⟨r, hr⟩ : ∃ r : Nat, o % 4 = r := ⟨_, rfl⟩
      have hr' : (o : Int) % 4 = (r : Int) := by omega
      have hr4 : r < 4 := by omega
      clear ho hr
      by_cases hk2 : k < n2
      · obtain ⟨ad2, rfl, d2⟩ := (HR2.out.below (HW2.out.trans (HREL.out.below.mono HW2.out.size))).at_ hk2
        rw [ints_getD] at d2
        obtain ⟨m, hm⟩ : ∃ m, ns.getD k 0 = m := ⟨_, rfl⟩
        have hm6 : m < 256 := hm ▸ getD_lt HO2.out k
        rw [hm] at d2
        clear hm
        have HD := Lib.hid (fun W => do_any p (4 + (r : Int)) (m : Int) W)
        by_cases hE : payE p (4 + (r : Int)) (m : Int) = 0
        · obtain ⟨y, hy⟩ : ∃ y, payR p (4 + (r : Int)) (m : Int) = y := ⟨_, rfl⟩
          obtain ⟨s1, s2, s3, s4, s5, s6, s7⟩ := stays_parts HREL.out.right HREL.out.fits hE hy
          rw [hE, hy] at HD
          have HN := Lib.hid (fun W => pright_any y W s2)
          rw [decide_eq_true s1] at HN
          have HS1 := Lib.hid s1
          have HS2 := Lib.hid s2
          clear hE hy s1 s2
          obtain ⟨pf, pd, pa, pc, pr, pg, pt, ps⟩ := p
          obtain ⟨yf, yd, ya, yc, yr, yg, yt, ys⟩ := y
          dsimp only at s3 s4 s5 s6 s7
          subst s6
          have n3 : ¬ yc < pc := by omega
          have n4 : ¬ yr < pr := by omega
          have n5 : ¬ yg < pg := by omega
          have n6 : (ya != ya) = false := neF rfl
          unfold PayRes Py.val errV at HD
          rw [if_pos rfl] at HD
          unfold Py.val at HN
          dsimp only at HD HN
          obtain ⟨x0, x1, x2, x3, x4, x5, x6, x7⟩ := HREL.out.at_.cells
          dsimp only at x0 x1 x2 x3 x4 x5 x6 x7
          clear s3 s4 s5
          go_wp2_with fail
          refine (HD.out _).mono ?_
          rintro _ w5 ⟨rfl, hb5⟩
          have HREL5 := Lib.hid (HREL.out.alloc hb5 (.cells #[.int .i64 yf, .int .i64 yd, .int .i64 ya, .int .i64 yc, .int .i64 yr, .int .i64 yg, .int .i64 yt, .int .i64 ys] 28))
          have HY5 := Lib.hid (Py8.new w5 28 yf yd ya yc yr yg yt ys)
          clear x0 x1 x2 x3 x4 x5 x6 x7 hb5 HREL HD
          go_wp2_with fail
          refine (HN.out _).mono ?_
          rintro _ w6 ⟨rfl, hb6⟩
          have HREL6 := Lib.hid (HREL5.out.later hb6)
          obtain ⟨y0, y1, y2, y3, y4, y5, y6, y7⟩ := (HY5.out.below hb6 (by simp)).cells
          obtain ⟨x0, x1, x2, x3, x4, x5, x6, x7⟩ := HREL6.out.at_.cells
          obtain ⟨g0, g1, g2, g3, g4, g5, g6, g7⟩ := HREL6.out.at_.loose
          dsimp only at x0 x1 x2 x3 x4 x5 x6 x7
          have HP6 := Lib.hid (HREL6.out.put HS1.out HS2.out)
          dsimp only at HP6
          clear hb6 HREL5 HY5 HN HS1 HS2
          by_cases hs : ps = 1
          case' pos =>
            have q1 := eqT hs
            have q2 := eqF (show ¬ ys = 0 by have := s7 hs; omega)
          case' neg =>
            have q1 := eqF hs
          all_goals
            clear hs s7
            go_wp2
            go_roundw
            case rel => exact ⟨k + 1, ⟨yf, yd, ya, yc, yr, yg, yt, ys⟩, by omega, by go_num, HP6.out⟩
            case measure => simp [intOf]; omega
        · rw [payR_bad hE] at HD
          obtain ⟨E, hE'⟩ : ∃ E, payE p (4 + (r : Int)) (m : Int) = E := ⟨_, rfl⟩
          rw [hE'] at HD hE
          unfold PayRes Py.val Py.zero errV at HD
          rw [if_neg hE] at HD
          clear hE' hE
          obtain ⟨pf, pd, pa, pc, pr, pg, pt, ps⟩ := p
          dsimp only at HD
          obtain ⟨x0, x1, x2, x3, x4, x5, x6, x7⟩ := HREL.out.at_.cells
          dsimp only at x0 x1 x2 x3 x4 x5 x6 x7
          go_wp2_with fail
          refine (HD.out _).mono ?_
          rintro _ w5 ⟨rfl, hb5⟩
          have HREL5 := Lib.hid (HREL.out.alloc hb5 (.cells #[.int .i64 0, .int .i64 0, .int .i64 0, .int .i64 0, .int .i64 0, .int .i64 0, .int .i64 0, .int .i64 0] 28))
          clear x0 x1 x2 x3 x4 x5 x6 x7 hb5 HREL HD
          go_wp2
          go_roundw
          case rel => exact ⟨k + 1, _, by omega, by go_num, HREL5.out⟩
          case measure => simp [intOf]; omega
      · have HD := Lib.hid (fun W => do_any p (4 + (r : Int)) 1 W)
        by_cases hE : payE p (4 + (r : Int)) 1 = 0
        · obtain ⟨y, hy⟩ : ∃ y, payR p (4 + (r : Int)) 1 = y := ⟨_, rfl⟩
          obtain ⟨s1, s2, s3, s4, s5, s6, s7⟩ := stays_parts HREL.out.right HREL.out.fits hE hy
          rw [hE, hy] at HD
          have HN := Lib.hid (fun W => pright_any y W s2)
          rw [decide_eq_true s1] at HN
          have HS1 := Lib.hid s1
          have HS2 := Lib.hid s2
          clear hE hy s1 s2
          obtain ⟨pf, pd, pa, pc, pr, pg, pt, ps⟩ := p
          obtain ⟨yf, yd, ya, yc, yr, yg, yt, ys⟩ := y
          dsimp only at s3 s4 s5 s6 s7
          subst s6
          have n3 : ¬ yc < pc := by omega
          have n4 : ¬ yr < pr := by omega
          have n5 : ¬ yg < pg := by omega
          have n6 : (ya != ya) = false := neF rfl
          unfold PayRes Py.val errV at HD
          rw [if_pos rfl] at HD
          unfold Py.val at HN
          dsimp only at HD HN
          obtain ⟨x0, x1, x2, x3, x4, x5, x6, x7⟩ := HREL.out.at_.cells
          dsimp only at x0 x1 x2 x3 x4 x5 x6 x7
          clear s3 s4 s5
          go_wp2_with fail
          refine (HD.out _).mono ?_
          rintro _ w5 ⟨rfl, hb5⟩
          have HREL5 := Lib.hid (HREL.out.alloc hb5 (.cells #[.int .i64 yf, .int .i64 yd, .int .i64 ya, .int .i64 yc, .int .i64 yr, .int .i64 yg, .int .i64 yt, .int .i64 ys] 28))
          have HY5 := Lib.hid (Py8.new w5 28 yf yd ya yc yr yg yt ys)
          clear x0 x1 x2 x3 x4 x5 x6 x7 hb5 HREL HD
          go_wp2_with fail
          refine (HN.out _).mono ?_
          rintro _ w6 ⟨rfl, hb6⟩
          have HREL6 := Lib.hid (HREL5.out.later hb6)
          obtain ⟨y0, y1, y2, y3, y4, y5, y6, y7⟩ := (HY5.out.below hb6 (by simp)).cells
          obtain ⟨x0, x1, x2, x3, x4, x5, x6, x7⟩ := HREL6.out.at_.cells
          obtain ⟨g0, g1, g2, g3, g4, g5, g6, g7⟩ := HREL6.out.at_.loose
          dsimp only at x0 x1 x2 x3 x4 x5 x6 x7
          have HP6 := Lib.hid (HREL6.out.put HS1.out HS2.out)
          dsimp only at HP6
          clear hb6 HREL5 HY5 HN HS1 HS2
          by_cases hs : ps = 1
          case' pos =>
            have q1 := eqT hs
            have q2 := eqF (show ¬ ys = 0 by have := s7 hs; omega)
          case' neg =>
            have q1 := eqF hs
          all_goals
            clear hs s7
            go_wp2
            go_roundw
            case rel => exact ⟨k + 1, ⟨yf, yd, ya, yc, yr, yg, yt, ys⟩, by omega, by go_num, HP6.out⟩
            case measure => simp [intOf]; omega
        · rw [payR_bad hE] at HD
          obtain ⟨E, hE'⟩ : ∃ E, payE p (4 + (r : Int)) 1 = E := ⟨_, rfl⟩
          rw [hE'] at HD hE
          unfold PayRes Py.val Py.zero errV at HD
          rw [if_neg hE] at HD
          clear hE' hE
          obtain ⟨pf, pd, pa, pc, pr, pg, pt, ps⟩ := p
          dsimp only at HD
          obtain ⟨x0, x1, x2, x3, x4, x5, x6, x7⟩ := HREL.out.at_.cells
          dsimp only at x0 x1 x2 x3 x4 x5 x6 x7
          go_wp2_with fail
          refine (HD.out _).mono ?_
          rintro _ w5 ⟨rfl, hb5⟩
          have HREL5 := Lib.hid (HREL.out.alloc hb5 (.cells #[.int .i64 0, .int .i64 0, .int .i64 0, .int .i64 0, .int .i64 0, .int .i64 0, .int .i64 0, .int .i64 0] 28))
          clear x0 x1 x2 x3 x4 x5 x6 x7 hb5 HREL HD
          go_wp2
          go_roundw
          case rel => exact ⟨k + 1, _, by omega, by go_num, HREL5.out⟩
          case measure => simp [intOf]; omega
    · obtain rfl : k = n1 := by omega
      have HF := Lib.hid (fun W => left_any p W)
      have HG := Lib.hid (fun W => gave_any p W)
      have l0 := HREL.out.right.left0
      have g0 := HREL.out.right.gave0
      obtain ⟨l, hl⟩ : ∃ l, leftP p = l := ⟨_, rfl⟩
      obtain ⟨g, hg⟩ : ∃ g, gaveP p = g := ⟨_, rfl⟩
      rw [hl] at HF l0
      rw [hg] at HG g0
      have HAT := Lib.hid HREL.out.at_
      have HBW := Lib.hid (HW2.out.trans (HREL.out.below.mono HW2.out.size))
      clear hl hg HREL HST
      obtain ⟨pf, pd, pa, pc, pr, pg, pt, ps⟩ := p
      unfold Py.val at HF HG
      dsimp only at HF HG HAT
      obtain ⟨x0, x1, x2, x3, x4, x5, x6, x7⟩ := HAT.out.cells
      go_wp2_with fail
      refine (HF.out _).mono ?_
      rintro _ w5 ⟨rfl, hb5⟩
      obtain ⟨y0, y1, y2, y3, y4, y5, y6, y7⟩ := (HAT.out.below hb5 hltr).cells
      have HB5 := Lib.hid (HBW.out.trans (hb5.mono HBW.out.size))
      clear hb5 x0 x1 x2 x3 x4 x5 x6 x7 HAT HBW HF
      go_wp2_with fail
      refine (HG.out _).mono ?_
      rintro _ w6 ⟨rfl, hb6⟩
      go_wp2
      go_ret
      exact ⟨rfl, HB5.out.trans (hb6.mono HB5.out.size)⟩
end Go.Proofs.YtenghafnpmlbnaaDoor
