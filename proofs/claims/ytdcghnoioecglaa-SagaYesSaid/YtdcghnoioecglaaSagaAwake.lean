/-
  The document's example of layer 14 holds, of what saga answers.
-/
import Derived.Test.YtdcghnoioecglaaSagaMake
namespace Go.Proofs.Ytdcghnoioecglaa
open Go Go.RowKit
set_option linter.unusedVariables false

/-- Behind k answers false. -/
def sN (k : Nat) : Sg := ⟨rqL 2, if k = 4 then 1 else 0, 0, (k : Int), if k = 4 then 9 else 0⟩
theorem sN_step {k : Nat} (h : k < 4) : legS (sN k) false = sN (k + 1) := by
  have hs : (sN k).small := ⟨⟨(show (0 : Int) ≤ 2 by decide), (show (2 : Int) ≤ 4 by decide)⟩, ⟨(show (0 : Int) ≤ 0 by decide), (show (0 : Int) ≤ 2 by decide)⟩, ⟨by unfold sN; dsimp only; omega, by unfold sN; dsimp only; omega⟩, (fun _ => by unfold sN; dsimp only; omega), .inl (by unfold sN; dsimp only; rw [if_neg (by omega)])⟩
  rw [legS_small hs]
  rcases (show k = 0 ∨ k = 1 ∨ k = 2 ∨ k = 3 by omega) with rfl | rfl | rfl | rfl <;> decide
theorem sN_zero : beginS (rqL 2) = sN 0 := by decide

set_option maxRecDepth 100000 in
set_option maxHeartbeats 1000000 in
theorem sawake_ok (H : SagaFns) (w : World) : Calls Try.prog 7 #[] w (BoolRes w true) := by
  have HBG := Lib.hid (fun W => H.begin_ (rqL 2) W)
  have HLG := Lib.hid (fun s W => H.leg s false W)
  have HRT := Lib.hid (fun W => H.right (sN 4) W (by decide) (by decide) (by decide) (by decide) (by decide) (by decide) (by decide) (by decide))
  rw [sN_zero] at HBG
  unfold SgRes Sg.val Rq.val rqL at HBG
  unfold Sg.val at HRT
  unfold SgRes at HLG
  dsimp only at HBG
  clear H
  go_enter Try.func7, Try.ntmps7
  go_wp2_with fail
  refine (HBG.out _).mono ?_
  rintro _ w1 ⟨rfl, hb1⟩
  obtain ⟨g, hg⟩ : ∃ g, w1.heap.size = g := ⟨_, rfl⟩
  have HX1 := Lib.hid (show Sg11 (w1.alloc (.cells #[.int .i64 (sN 0).rq.key, .int .i64 (sN 0).rq.op, .int .i64 (sN 0).rq.a, .int .i64 (sN 0).rq.b, .int .i64 (sN 0).rq.amt, .int .i64 (sN 0).rq.legs, .int .i64 (sN 0).rq.til, .int .i64 (sN 0).ph, .int .i64 (sN 0).leg, .int .i64 (sN 0).tries, .int .i64 (sN 0).why] 30)) g 30 _ _ _ _ _ _ _ _ _ _ _ from hg ▸ Sg11.new w1 _ _ _ _ _ _ _ _ _ _ _ _)
  have HB1 := Lib.hid (hb1.alloc hb1.size (.cells #[.int .i64 (sN 0).rq.key, .int .i64 (sN 0).rq.op, .int .i64 (sN 0).rq.a, .int .i64 (sN 0).rq.b, .int .i64 (sN 0).rq.amt, .int .i64 (sN 0).rq.legs, .int .i64 (sN 0).rq.til, .int .i64 (sN 0).ph, .int .i64 (sN 0).leg, .int .i64 (sN 0).tries, .int .i64 (sN 0).why] 30))
  have hgw : w.heap.size ≤ g := by rw [← hg]; exact hb1.size
  clear hb1 HBG
  go_wp2
  (try simp only [hg])
  clear hg
  go_loopw [2] (fun i wr => ∃ k : Nat, k ≤ 4 ∧ i = .int .i64 (k : Int) ∧ Sg11 wr g 30 (sN k).rq.key (sN k).rq.op (sN k).rq.a (sN k).rq.b (sN k).rq.amt (sN k).rq.legs (sN k).rq.til (sN k).ph (sN k).leg (sN k).tries (sN k).why ∧ Below w.heap.size w wr) (fun i _ => 4 - (intOf i).toNat)
  case atStart => exact ⟨0, Nat.zero_le _, rfl, HX1.out, HB1.out⟩
  case round =>
    obtain ⟨k, hk, rfl, hx, hbel⟩ := hrel
    have HX := Lib.hid hx
    have HB := Lib.hid hbel
    have hlt1 := hx.lt
    clear hx hbel
    obtain ⟨x0, x1, x2, x3, x4, x5, x6, x7, x8, x9, x10⟩ := HX.out.cells
    by_cases hlt : k < 4
    · have HL := Lib.hid (HLG.out (sN k))
      rw [sN_step hlt] at HL
      unfold Sg.val at HL
      obtain ⟨s, hs⟩ : ∃ s, sN k = s := ⟨_, rfl⟩
      obtain ⟨t, ht⟩ : ∃ t, sN (k + 1) = t := ⟨_, rfl⟩
      rw [hs] at HL x0 x1 x2 x3 x4 x5 x6 x7 x8 x9 x10 HX
      rw [ht] at HL
      have HT := Lib.hid ht
      clear hs ht
      go_wp2_with fail
      refine (HL.out _).mono ?_
      rintro _ w2 ⟨rfl, hb2⟩
      have HX2 := Lib.hid (HX.out.below hb2 hlt1)
      have HB2 := Lib.hid (HB.out.trans (hb2.mono HB.out.size))
      obtain ⟨g0, g1, g2, g3, g4, g5, g6, g7, g8, g9, g10⟩ := HX2.out.loose
      have e0 := HX2.out.cells
      clear x0 x1 x2 x3 x4 x5 x6 x7 x8 x9 x10 hb2
      obtain ⟨x0, x1, x2, x3, x4, x5, x6, x7, x8, x9, x10⟩ := e0
      have HP := Lib.hid (HX2.out.put t.rq.key t.rq.op t.rq.a t.rq.b t.rq.amt t.rq.legs t.rq.til t.ph t.leg t.tries t.why)
      have HPB := Lib.hid (Sg11.put_below (g := g) HB2.out hgw t.rq.key t.rq.op t.rq.a t.rq.b t.rq.amt t.rq.legs t.rq.til t.ph t.leg t.tries t.why)
      go_wp2
      go_roundw
      case rel => exact ⟨k + 1, by omega, by go_num, by rw [HT.out]; exact HP.out, HPB.out⟩
      case measure => simp [intOf]; omega
    · obtain rfl : k = 4 := by omega
      go_wp2_with (first | (go_at_call 16; refine (HRT.out _).mono ?_; rintro _ w3 ⟨rfl, hb3⟩))
      go_ret
      exact ⟨rfl, HB.out.trans (hb3.mono HB.out.size)⟩
end Go.Proofs.Ytdcghnoioecglaa
