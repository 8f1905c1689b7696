/-
  keys.Ask by its contract.
-/
import Derived.Test.YtjphkpohcgkcmaaGreatDoorKeyFind
import Derived.Test.YtjphkpohcgkcmaaGreatDoorRq7
import Derived.Deep.RegionHeld
namespace Go.Proofs.YtjphkpohcgkcmaaGreatDoor
open Go Go.RowKit
set_option linter.unusedVariables false

/-- A reply, and a bool. -/
def AskTold (w : World) (R : Int × Int × Bool) (e : Ending) (w' : World) : Prop := e = .returned (.tuple #[.agg #[.int .i64 R.1, .int .i64 R.2.1], .bool R.2.2]) ∧ Below w.heap.size w w'

theorem askR_none {ks : List Kn} {r : Rq} (h : findN ks r.key = none) : askR ks r = (0, 0, false) := by unfold askR; rw [h]
theorem askR_some {ks : List Kn} {r : Rq} {i : Nat} {a : Kn} (h : findN ks r.key = some i) (ha : ks[i]? = some a) : askR ks r = if a.rq = r then (if a.told = true then (a.err, a.id, true) else (10, 0, true)) else (5, 0, true) := by
  unfold askR; rw [h]; dsimp only; rw [knAt_of ha]

set_option maxRecDepth 100000 in
set_option maxHeartbeats 4000000 in
theorem kask_any (A : Option Addr) (n cap : Nat) (ks : List Kn) (r : Rq) (w : World) (hl : ks.length = n) (hr : RdS known w A ks) (hn : n ≤ 9223372036854775807) :
    Calls Tryz.prog 22 #[.slice A n cap, r.val] w (AskTold w (askR ks r)) := by
  obtain ⟨R, hR⟩ : ∃ R, askR ks r = R := ⟨_, rfl⟩
  rw [hR]
  have HF := Lib.hid (fun W (h : RdS known W A ks) => find_any A n cap ks r.key W hl h hn)
  have HR := Lib.hid hr
  have HZ := Lib.hid (((Rq7.new w 42 r.key r.op r.a r.b r.amt r.legs r.til).alloc (.cells #[.int .i64 0, .int .i64 0] 50) (by simp)))
  have HY := Lib.hid (Rq2.new (w.alloc (.cells #[.int .i64 r.key, .int .i64 r.op, .int .i64 r.a, .int .i64 r.b, .int .i64 r.amt, .int .i64 r.legs, .int .i64 r.til] 42)) 50 0 0)
  have hz1 : (w.alloc (.cells #[.int .i64 r.key, .int .i64 r.op, .int .i64 r.a, .int .i64 r.b, .int .i64 r.amt, .int .i64 r.legs, .int .i64 r.til] 42)).heap.size = w.heap.size + 1 := by simp
  rw [hz1] at HY
  have HB0 := Lib.hid (((Below.refl w.heap.size w).alloc (Nat.le_refl _) (.cells #[.int .i64 r.key, .int .i64 r.op, .int .i64 r.a, .int .i64 r.b, .int .i64 r.amt, .int .i64 r.legs, .int .i64 r.til] 42)).alloc (by simp) (.cells #[.int .i64 0, .int .i64 0] 50))
  have HL := Lib.hid hl
  have HRR := Lib.hid hR
  obtain ⟨q, hq⟩ : ∃ q, findN ks r.key = q := ⟨_, rfl⟩
  rw [hq] at HF
  have HQ := Lib.hid hq
  clear hz1 hr hl hR hq
  obtain ⟨key, op, ra, rb, amt, legs, til⟩ := r
  unfold Rq.val
  dsimp only at HF HZ HY HB0 HRR HQ ⊢
  go_enter Tryz.func22, Tryz.ntmps22
  go_wp2_with fail
  refine (HF.out _ ((HR.out.alloc _).alloc _)).mono ?_
  rintro _ w2 ⟨rfl, hb2⟩
  have hz2 : w.heap.size + 2 ≤ w2.heap.size := by have := hb2.size; simp at this; omega
  have HZ2 := Lib.hid (HZ.out.below hb2 (by simp; omega))
  have HY2 := Lib.hid (HY.out.below hb2 (by simp))
  have HB2 := Lib.hid (HB0.out.trans (hb2.mono (by simp; omega)))
  have HR2 := Lib.hid (((HR.out.alloc _).alloc _).below hb2)
  clear hb2 HF HZ HY HB0 HR
  cases q with
  | none =>
    obtain rfl : R = (0, 0, false) := by rw [← HRR.out, askR_none HQ.out]
    rw [show fi none = -1 from rfl]
    obtain ⟨y0, y1⟩ := HY2.out.cells
    obtain ⟨f0, f1⟩ := HY2.out.loose
    go_wp2
    refine bodyPost_ret (results_row2 (p := 4) (x := 5) (ty := 50) rfl _ _ (w.heap.size + 1) _ _ (0, 0) _ rfl (HY2.out.put 0 0) Tryz.underlying50 rfl (by kernel_rfl)) rfl ?_
    exact ⟨rfl, Rq2.put_below HB2.out (by omega) 0 0⟩
  | some i =>
    obtain ⟨a, ha, hak⟩ := find_get HQ.out
    have HRS := Lib.hid (HRR.out.symm.trans (askR_some HQ.out ha))
    have hi : i < n := by rw [← HL.out]; exact find_lt HQ.out
    obtain ⟨ad, rfl, hat⟩ := HR2.out.at_ ha
    obtain ⟨c0, c1, c2, c3, c4, c5, c6, c7, c8, c9⟩ := kn_cells hat
    have hne := World.new_ne w2 _ c0
    clear hat ha HR2 HQ HRR
    rw [show fi (some i) = (i : Int) from rfl]
    obtain ⟨⟨key', op', ra', rb', amt', legs', til'⟩, er, id, told⟩ := a
    dsimp only at c0 c1 c2 c3 c4 c5 c6 c7 c8 c9 hak HRS
    subst hak
    have hgs : w.heap.size < w2.heap.size := by omega
    have hgs1 : w.heap.size + 1 < w2.heap.size := by omega
    obtain ⟨z0, z1, z2, z3, z4, z5, z6⟩ := HZ2.out.cells
    obtain ⟨y0, y1⟩ := HY2.out.cells
    obtain ⟨f0, f1⟩ := HY2.out.loose
    have g0 := eqT (rfl : key' = key')
    rcases rq_parts key' op' ra' rb' amt' legs' til' key' op ra rb amt legs til with ⟨h0, h1, h2, h3, h4, h5, h6⟩ | h0 | ⟨h0, h1⟩ | ⟨h0, h1, h2⟩ | ⟨h0, h1, h2, h3⟩ | ⟨h0, h1, h2, h3, h4⟩ | ⟨h0, h1, h2, h3, h4, h5⟩ | ⟨h0, h1, h2, h3, h4, h5, h6⟩
    case inl =>
      subst h1 h2 h3 h4 h5 h6
      rw [if_pos rfl] at HRS
      have b1 := eqT (rfl : op' = op')
      have b2 := eqT (rfl : ra' = ra')
      have b3 := eqT (rfl : rb' = rb')
      have b4 := eqT (rfl : amt' = amt')
      have b5 := eqT (rfl : legs' = legs')
      have b6 := eqT (rfl : til' = til')
      clear h0
      cases told with
      | false =>
        obtain rfl : R = (10, 0, true) := HRS.out.trans (if_neg (by simp))
        go_wp2
        refine bodyPost_ret (results_row2 (p := 4) (x := 5) (ty := 50) rfl _ _ (w.heap.size + 1) _ _ (0, 0) _ rfl ((HY2.out.put 10 0).alloc _ (by simp; omega)) Tryz.underlying50 rfl (by kernel_rfl)) rfl ?_
        exact ⟨rfl, (Rq2.put_below HB2.out (by omega) 10 0).alloc (by simp; omega) _⟩
      | true =>
        obtain rfl : R = (er, id, true) := HRS.out.trans (if_pos rfl)
        go_wp2
        refine bodyPost_ret (results_row2 (p := 4) (x := 5) (ty := 50) rfl _ _ (w.heap.size + 1) _ _ (0, 0) _ rfl ((HY2.out.put er id).alloc _ (by simp; omega)) Tryz.underlying50 rfl (by kernel_rfl)) rfl ?_
        exact ⟨rfl, (Rq2.put_below HB2.out (by omega) er id).alloc (by simp; omega) _⟩
    case inr.inl => exact absurd rfl h0
    case' inr.inr.inl =>
      have b1 := eqF h1
      obtain rfl : R = (5, 0, true) := HRS.out.trans (if_neg fun h => h1 (congrArg Rq.op h))
    case' inr.inr.inr.inl =>
      have b1 := eqT h1
      have b2 := eqF h2
      obtain rfl : R = (5, 0, true) := HRS.out.trans (if_neg fun h => h2 (congrArg Rq.a h))
      clear h1
    case' inr.inr.inr.inr.inl =>
      have b1 := eqT h1
      have b2 := eqT h2
      have b3 := eqF h3
      obtain rfl : R = (5, 0, true) := HRS.out.trans (if_neg fun h => h3 (congrArg Rq.b h))
      clear h1 h2
    case' inr.inr.inr.inr.inr.inl =>
      have b1 := eqT h1
      have b2 := eqT h2
      have b3 := eqT h3
      have b4 := eqF h4
      obtain rfl : R = (5, 0, true) := HRS.out.trans (if_neg fun h => h4 (congrArg Rq.amt h))
      clear h1 h2 h3
    case' inr.inr.inr.inr.inr.inr.inl =>
      have b1 := eqT h1
      have b2 := eqT h2
      have b3 := eqT h3
      have b4 := eqT h4
      have b5 := eqF h5
      obtain rfl : R = (5, 0, true) := HRS.out.trans (if_neg fun h => h5 (congrArg Rq.legs h))
      clear h1 h2 h3 h4
    case' inr.inr.inr.inr.inr.inr.inr =>
      have b1 := eqT h1
      have b2 := eqT h2
      have b3 := eqT h3
      have b4 := eqT h4
      have b5 := eqT h5
      have b6 := eqF h6
      obtain rfl : R = (5, 0, true) := HRS.out.trans (if_neg fun h => h6 (congrArg Rq.til h))
      clear h1 h2 h3 h4 h5
    all_goals
      clear h0 HRS
      go_wp2
      refine bodyPost_ret (results_row2 (p := 4) (x := 5) (ty := 50) rfl _ _ (w.heap.size + 1) _ _ (0, 0) _ rfl ((HY2.out.put 5 0).alloc _ (by simp; omega)) Tryz.underlying50 rfl (by kernel_rfl)) rfl ?_
      exact ⟨rfl, (Rq2.put_below HB2.out (by omega) 5 0).alloc (by simp; omega) _⟩
end Go.Proofs.YtjphkpohcgkcmaaGreatDoor
