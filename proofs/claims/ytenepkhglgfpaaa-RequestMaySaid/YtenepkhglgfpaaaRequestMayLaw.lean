/-
  The statement RequestMay by its walk.
-/
import Derived.Test.YtenepkhglgfpaaaReqAwake
import Derived.Test.YtenepkhglgfpaaaReqLawMay
import Derived.Test.YtenepkhglgfpaaaReqAsk
import Derived.Test.YtenepkhglgfpaaaAfter
namespace Go.Proofs.Ytenepkhglgfpaaa
open Go Go.RowKit
set_option linter.unusedVariables false

/-- An ask's cells in a block. -/
def Ak7 (w : World) (g : Nat) (z : Ak) : Prop := w.heap[g]? = some (.cells #[.int .u8 (z.key : Int), .int .u8 (z.op : Int), .int .u8 (z.a : Int), .int .u8 (z.b : Int), .int .u16 (z.amt : Int), .int .u8 (z.legs : Int), .int .u8 (z.til : Int)] 27 (0, 0))
theorem Ak7.new (w : World) (z : Ak) : Ak7 (w.alloc (.cells #[.int .u8 (z.key : Int), .int .u8 (z.op : Int), .int .u8 (z.a : Int), .int .u8 (z.b : Int), .int .u16 (z.amt : Int), .int .u8 (z.legs : Int), .int .u8 (z.til : Int)] 27)) w.heap.size z := heap_alloc_new w _
theorem Ak7.below {w w' : World} {B g : Nat} {z : Ak} (h : Ak7 w g z) (hb : Below B w w') (hg : g < B) : Ak7 w' g z := (hb.block g hg).trans h
theorem Ak7.alloc {w : World} {g : Nat} {z : Ak} (h : Ak7 w g z) (o : Obj) (hg : g < w.heap.size) : Ak7 (w.alloc o) g z := (Below.heap_alloc w o g hg).trans h
theorem Ak7.cells {w : World} {g : Nat} {z : Ak} (h : Ak7 w g z) : w.cell? ⟨g, 0, none⟩ = some (.int .u8 (z.key : Int)) ∧ w.cell? ⟨g, 1, none⟩ = some (.int .u8 (z.op : Int)) ∧ w.cell? ⟨g, 2, none⟩ = some (.int .u8 (z.a : Int)) ∧ w.cell? ⟨g, 3, none⟩ = some (.int .u8 (z.b : Int)) ∧ w.cell? ⟨g, 4, none⟩ = some (.int .u16 (z.amt : Int)) ∧ w.cell? ⟨g, 5, none⟩ = some (.int .u8 (z.legs : Int)) ∧ w.cell? ⟨g, 6, none⟩ = some (.int .u8 (z.til : Int)) :=
  ⟨cell_of_row w g 0 _ _ _ h, cell_of_row w g 1 _ _ _ h, cell_of_row w g 2 _ _ _ h, cell_of_row w g 3 _ _ _ h, cell_of_row w g 4 _ _ _ h, cell_of_row w g 5 _ _ _ h, cell_of_row w g 6 _ _ _ h⟩

theorem beq_refl_bool (b : Bool) : (b == b) = true := beq_self_eq_true b

set_option maxRecDepth 100000 in
set_option maxHeartbeats 1000000 in
theorem requestMay_walk (w : World) (r : Rq) (hr : r.fits) (z : Ak) (hz : z.fits) :
    Calls Try.prog 3 #[r.val, z.val] w fun e w' => e = .returned (.bool true) ∧ Below w.heap.size w w' := by
  obtain ⟨m, hm⟩ : ∃ m, m = decide r.may := ⟨_, rfl⟩
  have HM := Lib.hid (fun W => rmay_any r W)
  have HL := Lib.hid (fun W => lawmay_any r W)
  rw [← hm] at HM HL
  have HG := Lib.hid (fun W => long_any r W)
  have HA := Lib.hid (fun W => ask_any z hz W)
  have HN := Lib.hid (fun W => rmay_any z.req W)
  rw [decide_eq_true (z.req_may hz)] at HN
  obtain ⟨key, op, a, b, amt, legs, til⟩ := r
  obtain ⟨⟨qk, qo, qa, qb, qm, ql, qt⟩, hq⟩ : ∃ q, q = z.req := ⟨_, rfl⟩
  rw [← hq] at HA HN
  obtain ⟨zk, zo, za, zb, zm, zl, zt⟩ := z
  obtain ⟨lb, hlb⟩ : ∃ b : Bool, b = decide (op = 2 ∧ 0 < legs) := ⟨_, rfl⟩
  dsimp only at HG
  rw [← hlb] at HG
  unfold Rq.val at HM HL HG HN ⊢
  unfold Ak.val AskRes Rq.val at HA
  unfold Ak.val
  dsimp only at HM HL HG HN HA ⊢
  have mm := beq_refl_bool m
  have H1 := Lib.hid ((Rq7.new w 24 key op a b amt legs til).alloc (.cells #[.int .u8 (zk : Int), .int .u8 (zo : Int), .int .u8 (za : Int), .int .u8 (zb : Int), .int .u16 (zm : Int), .int .u8 (zl : Int), .int .u8 (zt : Int)] 27) (by simp))
  have H2 := Lib.hid (Ak7.new (w.alloc (.cells #[.int .i64 key, .int .i64 op, .int .i64 a, .int .i64 b, .int .i64 amt, .int .i64 legs, .int .i64 til] 24)) ⟨zk, zo, za, zb, zm, zl, zt⟩)
  have HB0 := Lib.hid (((Below.refl w.heap.size w).alloc (Nat.le_refl _) (.cells #[.int .i64 key, .int .i64 op, .int .i64 a, .int .i64 b, .int .i64 amt, .int .i64 legs, .int .i64 til] 24)).alloc (by simp) (.cells #[.int .u8 (zk : Int), .int .u8 (zo : Int), .int .u8 (za : Int), .int .u8 (zb : Int), .int .u16 (zm : Int), .int .u8 (zl : Int), .int .u8 (zt : Int)] 27))
  have hs0 : (w.alloc (.cells #[.int .i64 key, .int .i64 op, .int .i64 a, .int .i64 b, .int .i64 amt, .int .i64 legs, .int .i64 til] 24)).heap.size = w.heap.size + 1 := by simp
  rw [hs0] at H2
  clear hm hq hr hz hs0
  go_enter Try.func3, Try.ntmps3
  go_wp2_with fail
  refine (awake_ok _).mono ?_
  rintro _ w1 ⟨rfl, hb1⟩
  have hz1 : w.heap.size + 2 ≤ w1.heap.size := by have := hb1.size; simp at this; omega
  have HR1 := Lib.hid (H1.out.below hb1 (by simp; omega))
  have HA1 := Lib.hid (H2.out.below hb1 (by simp))
  have HB1 := Lib.hid (HB0.out.trans (hb1.mono (by simp; omega)))
  clear hb1 H1 H2 HB0
  have d0 := fun p : After w1 => ((HR1.out.below p.below (by omega)).cells).1
  have d1 := fun p : After w1 => ((HR1.out.below p.below (by omega)).cells).2.1
  have d2 := fun p : After w1 => ((HR1.out.below p.below (by omega)).cells).2.2.1
  have d3 := fun p : After w1 => ((HR1.out.below p.below (by omega)).cells).2.2.2.1
  have d4 := fun p : After w1 => ((HR1.out.below p.below (by omega)).cells).2.2.2.2.1
  have d5 := fun p : After w1 => ((HR1.out.below p.below (by omega)).cells).2.2.2.2.2.1
  have d6 := fun p : After w1 => ((HR1.out.below p.below (by omega)).cells).2.2.2.2.2.2
  have e0 := fun p : After w1 => ((HA1.out.below p.below (by omega)).cells).1
  have e1 := fun p : After w1 => ((HA1.out.below p.below (by omega)).cells).2.1
  have e2 := fun p : After w1 => ((HA1.out.below p.below (by omega)).cells).2.2.1
  have e3 := fun p : After w1 => ((HA1.out.below p.below (by omega)).cells).2.2.2.1
  have e4 := fun p : After w1 => ((HA1.out.below p.below (by omega)).cells).2.2.2.2.1
  have e5 := fun p : After w1 => ((HA1.out.below p.below (by omega)).cells).2.2.2.2.2.1
  have e6 := fun p : After w1 => ((HA1.out.below p.below (by omega)).cells).2.2.2.2.2.2
  dsimp only at e0 e1 e2 e3 e4 e5 e6
  go_wp2
  refine wp_region_after (by kernel_rfl) (by kernel_rfl) ?_
  by_cases h2 : op = 2
  case' pos =>
    have q2 := eqT h2
    have lg : lb = decide (0 < legs) := by rw [hlb]; simp [h2]
    subst lg
    have mm2 := beq_refl_bool (decide (0 < legs))
  case' neg =>
    have q2 := eqF h2
    have lg : lb = false := by rw [hlb]; simp [h2]
    subst lg
  all_goals
    clear h2 hlb
    repeat (go_big_quiet_step (first
      | (go_at_call_of 10 (Value.agg #[.int .i64 key, .int .i64 op, .int .i64 a, .int .i64 b, .int .i64 amt, .int .i64 legs, .int .i64 til]); exact after_call _ (HM.out _))
      | (go_at_call_of 10 (Value.agg #[.int .i64 qk, .int .i64 qo, .int .i64 qa, .int .i64 qb, .int .i64 qm, .int .i64 ql, .int .i64 qt]); exact after_call _ (HN.out _))
      | (go_at_call 11; exact after_call _ (HL.out _))
      | (go_at_call 12; exact after_call _ (HA.out _))
      | (go_at_call 13; exact after_call _ (HG.out _))))
    refine wpQuiet_nil ?_
    intro _ hw'
    obtain ⟨p, rfl⟩ := hw'
    have HB2 := Lib.hid (HB1.out.trans (p.below.mono HB1.out.size))
    clear d0 d1 d2 d3 d4 d5 d6 e0 e1 e2 e3 e4 e5 e6
    go_wp2
    go_ret
    exact ⟨rfl, HB2.out⟩
end Go.Proofs.Ytenepkhglgfpaaa
