/-
  The statement SagaLeg by its walk, of what saga answers.
-/
import Derived.Test.YtdcghnoioecglaaSagaAwake
import Derived.Test.YtdcghnoioecglaaRq7
import Derived.Test.YtdcghnoioecglaaRebase
import Derived.BigQuiet
import Derived.BigRegion
import Derived.Deep.QuietTactic
import Derived.Deep.RegionWith
import Derived.Deep.RegionHeld3
import Derived.Deep.CutRange
namespace Go.Proofs.Ytdcghnoioecglaa
open Go Go.RowKit
set_option linter.unusedVariables false

theorem rq7_set5 {w : World} {g : Nat} {t : TypeId} {x0 x1 x2 x3 x4 x5 x6 : Int} (h : Rq7 w g t x0 x1 x2 x3 x4 x5 x6) (y : Int) : Rq7 (w.setCell ⟨g, 5, none⟩ (.int .i64 y)) g t x0 x1 x2 x3 x4 y x6 := by
  unfold Rq7 at h ⊢
  simp [World.setCell, Array.getElem?_modify, h]

set_option maxRecDepth 100000 in
set_option maxHeartbeats 8000000 in
theorem sagaLeg_of (H : SagaFns) (w : World) (a : Nat) (ha : a < 256) (A1 : Option Addr) (n1 cap1 : Nat) (i1 : IsRecs flags (fun _ => True) w A1 n1 cap1) (r : Rq) :
    Calls Try.prog 3 #[.int .u8 (a : Int), .slice A1 n1 cap1, r.val] w fun e w' => e = .returned (.bool true) ∧ Below w.heap.size w w' := by
  obtain ⟨bs, hl1, hr1, _, hnc1, hcm1, _⟩ := recs_list i1
  have hmx : maxLen = 9223372036854775807 := rfl
  have hn1 : n1 ≤ 9223372036854775807 := by omega
  obtain ⟨x, hx⟩ : ∃ x : Nat, a % 5 = x := ⟨_, rfl⟩
  have hx' : (a : Int) % 5 = (x : Int) := by omega
  obtain ⟨c, hc⟩ : ∃ c : Int, (x : Int) = c := ⟨_, rfl⟩
  rw [hc] at hx'
  obtain ⟨k, o, ra, rb, m, rl, u⟩ := r
  have HA := Lib.hid (sawake_ok H)
  have HBG := Lib.hid (H.begin_ ⟨k, o, ra, rb, m, c, u⟩)
  have HLG := Lib.hid (fun s b W => H.leg s b W)
  have HLW := Lib.hid (fun s b W => lawleg_any s b W)
  have HRD := Lib.hid (fun s W => H.ready s W)
  unfold SgRes beginS Sg.val Rq.val at HBG
  unfold SgRes at HLG HLW
  unfold Rq.val
  dsimp only at HBG ⊢
  have HR0 := Lib.hid hr1
  have HL := Lib.hid hl1
  have HS := Lib.hid (Rq7.new w 25 k o ra rb m rl u)
  have HB := Lib.hid ((Below.refl w.heap.size w).alloc (Nat.le_refl _) (.cells #[.int .i64 k, .int .i64 o, .int .i64 ra, .int .i64 rb, .int .i64 m, .int .i64 rl, .int .i64 u] 25))
  clear H hr1 hl1 i1 hmx hnc1 hcm1 hx hc ha
  go_enter Try.func3, Try.ntmps3
  go_wp2_with fail
  refine (HA.out _).mono ?_
  rintro _ w1 ⟨rfl, hb1⟩
  have HS1 := Lib.hid (HS.out.below hb1 (by simp))
  have HB1 := Lib.hid (HB.out.trans (hb1.mono HB.out.size))
  have hz1 : w.heap.size < w1.heap.size := (Array.getElem?_eq_some_iff.1 HS1.out).1
  have HRR := Lib.hid (HR0.out.below HB1.out)
  obtain ⟨g, hg⟩ : ∃ g, w.heap.size = g := ⟨_, rfl⟩
  rw [hg] at HS1 hz1 HB1
  have HS2 := Lib.hid (rq7_set5 HS1.out c)
  have HB2 := Lib.hid (HB1.out.setCell (p := ⟨g, 5, none⟩) (Nat.le_refl _) (.int .i64 c))
  have hz2 : g < (w1.setCell ⟨g, 5, none⟩ (.int .i64 c)).heap.size := by simpa using hz1
  (try simp only [hg])
  obtain ⟨x0, x1, x2, x3, x4, x5, x6⟩ := HS1.out.cells
  obtain ⟨l0, l1, l2, l3, l4, l5, l6⟩ := HS1.out.loose
  clear HS HB hb1
  go_upto_region 4 with fail
  clear x0 x1 x2 x3 x4 x5 x6 l0 l1 l2 l3 l4 l5 l6 HS1 HB1 hz1
  generalize w1.setCell ⟨g, 5, none⟩ (.int .i64 c) = w2 at HS2 HB2 hz2 ⊢
  (try simp only [hx'])
  go_cut [7, 8] from 17 to 20 (fun x7 x8 wx => ∃ g7 g8, x7 = .pointer (some ⟨g7, 0, none⟩) ∧ x8 = .pointer (some ⟨g8, 0, none⟩) ∧ g < g7 ∧ g < g8 ∧ g7 ≠ g8 ∧ Sg11 wx g7 30 k o ra rb m c u 0 0 0 0 ∧ Sg11 wx g8 30 k o ra rb m c u 0 0 0 0 ∧ Below g w wx)
  case first =>
    have HZ2 : Hid (g ≤ w2.heap.size) := Lib.hid (Nat.le_of_lt hz2)
    obtain ⟨x0, x1, x2, x3, x4, x5, x6⟩ := HS2.out.cells
    have hn1' : ¬ g = w2.heap.size := by omega
    have hn2' : ¬ g = w2.heap.size + 1 := by omega
    have hn3' : ¬ w2.heap.size = g := by omega
    have hn4' : ¬ w2.heap.size + 1 = g := by omega
    have hSA : Rq7 w2 g 25 k o ra rb m c u := HS2.out
    go_region_held3 (fun w' => w'.cell? ⟨g, 0, none⟩ = some (.int .i64 k) ∧ w'.cell? ⟨g, 1, none⟩ = some (.int .i64 o) ∧ w'.cell? ⟨g, 2, none⟩ = some (.int .i64 ra) ∧ w'.cell? ⟨g, 3, none⟩ = some (.int .i64 rb) ∧ w'.cell? ⟨g, 4, none⟩ = some (.int .i64 m) ∧ w'.cell? ⟨g, 5, none⟩ = some (.int .i64 c) ∧ w'.cell? ⟨g, 6, none⟩ = some (.int .i64 u)) (go_keep) (first
      | (go_at_call 8
         refine (HBG.out _).mono ?_
         rintro _ wq ⟨rfl, hbq⟩
         first
           | (have hrq := HS2.out.drew.below hbq hz2
              have HQB := Lib.hid (HB2.out.drew.trans (hbq.mono (by simp; omega)))
              have hzq : g < wq.heap.size := (Array.getElem?_eq_some_iff.1 hrq).1
              obtain ⟨y0, y1, y2, y3, y4, y5, y6⟩ := hrq.cells
              clear hrq hbq)
           | (have hrq := (HS2.out.alloc (.cells #[.int .i64 0, .int .i64 0, .int .i64 0, .int .i64 0, .int .i64 0, .int .i64 0, .int .i64 0, .int .i64 0, .int .i64 0, .int .i64 0, .int .i64 0] 30) hz2).drew.below hbq (by simp; omega)
              have HQ1 := Lib.hid ((Sg11.new w2 30 0 0 0 0 0 0 0 0 0 0 0).drew.below hbq (by simp))
              have HQB := Lib.hid ((HB2.out.alloc HZ2.out (.cells #[.int .i64 0, .int .i64 0, .int .i64 0, .int .i64 0, .int .i64 0, .int .i64 0, .int .i64 0, .int .i64 0, .int .i64 0, .int .i64 0, .int .i64 0] 30)).drew.trans (hbq.mono (by simp; omega)))
              have hzq : g < wq.heap.size := (Array.getElem?_eq_some_iff.1 hrq).1
              have hzq1 : w2.heap.size < wq.heap.size := HQ1.out.lt
              obtain ⟨y0, y1, y2, y3, y4, y5, y6⟩ := hrq.cells
              obtain ⟨c0, c1, c2, c3, c4, c5, c6, c7, c8, c9, c10⟩ := HQ1.out.cells
              obtain ⟨f0, f1, f2, f3, f4, f5, f6, f7, f8, f9, f10⟩ := HQ1.out.loose
              clear hrq hbq)
           | (have hrq := ((HS2.out.alloc (.cells #[.int .i64 0, .int .i64 0, .int .i64 0, .int .i64 0, .int .i64 0, .int .i64 0, .int .i64 0, .int .i64 0, .int .i64 0, .int .i64 0, .int .i64 0] 30) hz2).alloc (.cells #[.int .i64 0, .int .i64 0, .int .i64 0, .int .i64 0, .int .i64 0, .int .i64 0, .int .i64 0, .int .i64 0, .int .i64 0, .int .i64 0, .int .i64 0] 30) (by simp; omega)).drew.below hbq (by simp; omega)
              have HQ1 := Lib.hid (((Sg11.new w2 30 0 0 0 0 0 0 0 0 0 0 0).alloc (.cells #[.int .i64 0, .int .i64 0, .int .i64 0, .int .i64 0, .int .i64 0, .int .i64 0, .int .i64 0, .int .i64 0, .int .i64 0, .int .i64 0, .int .i64 0] 30) (by simp)).drew.below hbq (by simp; omega))
              have HQ2 := Lib.hid ((Sg11.new (w2.alloc (.cells #[.int .i64 0, .int .i64 0, .int .i64 0, .int .i64 0, .int .i64 0, .int .i64 0, .int .i64 0, .int .i64 0, .int .i64 0, .int .i64 0, .int .i64 0] 30)) 30 0 0 0 0 0 0 0 0 0 0 0).drew.below hbq (by simp))
              rw [alloc_size] at HQ2
              have HQB := Lib.hid (((HB2.out.alloc HZ2.out (.cells #[.int .i64 0, .int .i64 0, .int .i64 0, .int .i64 0, .int .i64 0, .int .i64 0, .int .i64 0, .int .i64 0, .int .i64 0, .int .i64 0, .int .i64 0] 30)).alloc (by simp; omega) (.cells #[.int .i64 0, .int .i64 0, .int .i64 0, .int .i64 0, .int .i64 0, .int .i64 0, .int .i64 0, .int .i64 0, .int .i64 0, .int .i64 0, .int .i64 0] 30)).drew.trans (hbq.mono (by simp; omega)))
              have hzq : g < wq.heap.size := (Array.getElem?_eq_some_iff.1 hrq).1
              have hzq1 : w2.heap.size < wq.heap.size := HQ1.out.lt
              have hzq2 : w2.heap.size + 1 < wq.heap.size := HQ2.out.lt
              obtain ⟨y0, y1, y2, y3, y4, y5, y6⟩ := hrq.cells
              obtain ⟨c0, c1, c2, c3, c4, c5, c6, c7, c8, c9, c10⟩ := HQ1.out.cells
              obtain ⟨f0, f1, f2, f3, f4, f5, f6, f7, f8, f9, f10⟩ := HQ1.out.loose
              obtain ⟨d0, d1, d2, d3, d4, d5, d6, d7, d8, d9, d10⟩ := HQ2.out.cells
              obtain ⟨e0, e1, e2, e3, e4, e5, e6, e7, e8, e9, e10⟩ := HQ2.out.loose
              clear hrq hbq)))
    all_goals go_wp2
    all_goals go_meet
    · have h1 := (Sg11.new wq 30 k o ra rb m c u 0 0 0 0).alloc (.cells #[.int .i64 k, .int .i64 o, .int .i64 ra, .int .i64 rb, .int .i64 m, .int .i64 c, .int .i64 u, .int .i64 0, .int .i64 0, .int .i64 0, .int .i64 0] 30) (by simp)
      have h2 := Sg11.new (wq.alloc (.cells #[.int .i64 k, .int .i64 o, .int .i64 ra, .int .i64 rb, .int .i64 m, .int .i64 c, .int .i64 u, .int .i64 0, .int .i64 0, .int .i64 0, .int .i64 0] 30)) 30 k o ra rb m c u 0 0 0 0
      rw [alloc_size] at h2
      have h3 := (HQB.out.alloc (Nat.le_of_lt hzq) (.cells #[.int .i64 k, .int .i64 o, .int .i64 ra, .int .i64 rb, .int .i64 m, .int .i64 c, .int .i64 u, .int .i64 0, .int .i64 0, .int .i64 0, .int .i64 0] 30)).alloc (by simp; omega) (.cells #[.int .i64 k, .int .i64 o, .int .i64 ra, .int .i64 rb, .int .i64 m, .int .i64 c, .int .i64 u, .int .i64 0, .int .i64 0, .int .i64 0, .int .i64 0] 30)
      exact ⟨_, _, rfl, rfl, by omega, by omega, by omega, h1, h2, h3⟩
    · have h1 := (Sg11.new wq 30 k o ra rb m c u 0 0 0 0).alloc (.cells #[.int .i64 k, .int .i64 o, .int .i64 ra, .int .i64 rb, .int .i64 m, .int .i64 c, .int .i64 u, .int .i64 0, .int .i64 0, .int .i64 0, .int .i64 0] 30) (by simp)
      have h2 := Sg11.new (wq.alloc (.cells #[.int .i64 k, .int .i64 o, .int .i64 ra, .int .i64 rb, .int .i64 m, .int .i64 c, .int .i64 u, .int .i64 0, .int .i64 0, .int .i64 0, .int .i64 0] 30)) 30 k o ra rb m c u 0 0 0 0
      rw [alloc_size] at h2
      have h3 := (HQB.out.alloc (Nat.le_of_lt hzq) (.cells #[.int .i64 k, .int .i64 o, .int .i64 ra, .int .i64 rb, .int .i64 m, .int .i64 c, .int .i64 u, .int .i64 0, .int .i64 0, .int .i64 0, .int .i64 0] 30)).alloc (by simp; omega) (.cells #[.int .i64 k, .int .i64 o, .int .i64 ra, .int .i64 rb, .int .i64 m, .int .i64 c, .int .i64 u, .int .i64 0, .int .i64 0, .int .i64 0, .int .i64 0] 30)
      exact ⟨_, _, rfl, rfl, by omega, by omega, by omega, h2, h1, h3⟩
    · have h1 := (HQ1.out.put k o ra rb m c u 0 0 0 0).alloc (.cells #[.int .i64 k, .int .i64 o, .int .i64 ra, .int .i64 rb, .int .i64 m, .int .i64 c, .int .i64 u, .int .i64 0, .int .i64 0, .int .i64 0, .int .i64 0] 30) (by simp; omega)
      have h3 := (Sg11.put_below HQB.out HZ2.out k o ra rb m c u 0 0 0 0).alloc (by simp; omega) (.cells #[.int .i64 k, .int .i64 o, .int .i64 ra, .int .i64 rb, .int .i64 m, .int .i64 c, .int .i64 u, .int .i64 0, .int .i64 0, .int .i64 0, .int .i64 0] 30)
      have h2 := Sg11.new (((((((((((wq.setCell ⟨w2.heap.size, 0, none⟩ (.int .i64 k)).setCell ⟨w2.heap.size, 1, none⟩ (.int .i64 o)).setCell ⟨w2.heap.size, 2, none⟩ (.int .i64 ra)).setCell ⟨w2.heap.size, 3, none⟩ (.int .i64 rb)).setCell ⟨w2.heap.size, 4, none⟩ (.int .i64 m)).setCell ⟨w2.heap.size, 5, none⟩ (.int .i64 c)).setCell ⟨w2.heap.size, 6, none⟩ (.int .i64 u)).setCell ⟨w2.heap.size, 7, none⟩ (.int .i64 0)).setCell ⟨w2.heap.size, 8, none⟩ (.int .i64 0)).setCell ⟨w2.heap.size, 9, none⟩ (.int .i64 0)).setCell ⟨w2.heap.size, 10, none⟩ (.int .i64 0)) 30 k o ra rb m c u 0 0 0 0
      rw [Sg11.put_size] at h2
      exact ⟨_, _, rfl, rfl, by omega, by omega, by omega, h1, h2, h3⟩
    · have h1 := (Sg11.put_other (w := (((((((((((wq.setCell ⟨w2.heap.size, 0, none⟩ (.int .i64 k)).setCell ⟨w2.heap.size, 1, none⟩ (.int .i64 o)).setCell ⟨w2.heap.size, 2, none⟩ (.int .i64 ra)).setCell ⟨w2.heap.size, 3, none⟩ (.int .i64 rb)).setCell ⟨w2.heap.size, 4, none⟩ (.int .i64 m)).setCell ⟨w2.heap.size, 5, none⟩ (.int .i64 c)).setCell ⟨w2.heap.size, 6, none⟩ (.int .i64 u)).setCell ⟨w2.heap.size, 7, none⟩ (.int .i64 0)).setCell ⟨w2.heap.size, 8, none⟩ (.int .i64 0)).setCell ⟨w2.heap.size, 9, none⟩ (.int .i64 0)).setCell ⟨w2.heap.size, 10, none⟩ (.int .i64 0))) (g := w2.heap.size + 1) (b := w2.heap.size) (by omega) k o ra rb m c u 0 0 0 0).trans (HQ1.out.put k o ra rb m c u 0 0 0 0)
      have h2 := Sg11.put (w := (((((((((((wq.setCell ⟨w2.heap.size, 0, none⟩ (.int .i64 k)).setCell ⟨w2.heap.size, 1, none⟩ (.int .i64 o)).setCell ⟨w2.heap.size, 2, none⟩ (.int .i64 ra)).setCell ⟨w2.heap.size, 3, none⟩ (.int .i64 rb)).setCell ⟨w2.heap.size, 4, none⟩ (.int .i64 m)).setCell ⟨w2.heap.size, 5, none⟩ (.int .i64 c)).setCell ⟨w2.heap.size, 6, none⟩ (.int .i64 u)).setCell ⟨w2.heap.size, 7, none⟩ (.int .i64 0)).setCell ⟨w2.heap.size, 8, none⟩ (.int .i64 0)).setCell ⟨w2.heap.size, 9, none⟩ (.int .i64 0)).setCell ⟨w2.heap.size, 10, none⟩ (.int .i64 0))) ((Sg11.put_other (w := wq) (g := w2.heap.size) (b := w2.heap.size + 1) (by omega) k o ra rb m c u 0 0 0 0).trans HQ2.out) k o ra rb m c u 0 0 0 0
      have h3 := Sg11.put_below (Sg11.put_below HQB.out HZ2.out k o ra rb m c u 0 0 0 0) (Nat.le_succ_of_le HZ2.out) k o ra rb m c u 0 0 0 0
      exact ⟨_, _, rfl, rfl, by omega, by omega, by omega, h1, h2, h3⟩
    · have h1 := (HQ1.out.put k o ra rb m c u 0 0 0 0).alloc (.cells #[.int .i64 k, .int .i64 o, .int .i64 ra, .int .i64 rb, .int .i64 m, .int .i64 c, .int .i64 u, .int .i64 0, .int .i64 0, .int .i64 0, .int .i64 0] 30) (by simp; omega)
      have h3 := (Sg11.put_below HQB.out HZ2.out k o ra rb m c u 0 0 0 0).alloc (by simp; omega) (.cells #[.int .i64 k, .int .i64 o, .int .i64 ra, .int .i64 rb, .int .i64 m, .int .i64 c, .int .i64 u, .int .i64 0, .int .i64 0, .int .i64 0, .int .i64 0] 30)
      have h2 := Sg11.new (((((((((((wq.setCell ⟨w2.heap.size, 0, none⟩ (.int .i64 k)).setCell ⟨w2.heap.size, 1, none⟩ (.int .i64 o)).setCell ⟨w2.heap.size, 2, none⟩ (.int .i64 ra)).setCell ⟨w2.heap.size, 3, none⟩ (.int .i64 rb)).setCell ⟨w2.heap.size, 4, none⟩ (.int .i64 m)).setCell ⟨w2.heap.size, 5, none⟩ (.int .i64 c)).setCell ⟨w2.heap.size, 6, none⟩ (.int .i64 u)).setCell ⟨w2.heap.size, 7, none⟩ (.int .i64 0)).setCell ⟨w2.heap.size, 8, none⟩ (.int .i64 0)).setCell ⟨w2.heap.size, 9, none⟩ (.int .i64 0)).setCell ⟨w2.heap.size, 10, none⟩ (.int .i64 0)) 30 k o ra rb m c u 0 0 0 0
      rw [Sg11.put_size] at h2
      exact ⟨_, _, rfl, rfl, by omega, by omega, by omega, h2, h1, h3⟩
    · have h1 := Sg11.put (w := (((((((((((wq.setCell ⟨w2.heap.size + 1, 0, none⟩ (.int .i64 k)).setCell ⟨w2.heap.size + 1, 1, none⟩ (.int .i64 o)).setCell ⟨w2.heap.size + 1, 2, none⟩ (.int .i64 ra)).setCell ⟨w2.heap.size + 1, 3, none⟩ (.int .i64 rb)).setCell ⟨w2.heap.size + 1, 4, none⟩ (.int .i64 m)).setCell ⟨w2.heap.size + 1, 5, none⟩ (.int .i64 c)).setCell ⟨w2.heap.size + 1, 6, none⟩ (.int .i64 u)).setCell ⟨w2.heap.size + 1, 7, none⟩ (.int .i64 0)).setCell ⟨w2.heap.size + 1, 8, none⟩ (.int .i64 0)).setCell ⟨w2.heap.size + 1, 9, none⟩ (.int .i64 0)).setCell ⟨w2.heap.size + 1, 10, none⟩ (.int .i64 0))) ((Sg11.put_other (w := wq) (g := w2.heap.size + 1) (b := w2.heap.size) (by omega) k o ra rb m c u 0 0 0 0).trans HQ1.out) k o ra rb m c u 0 0 0 0
      have h2 := (Sg11.put_other (w := (((((((((((wq.setCell ⟨w2.heap.size + 1, 0, none⟩ (.int .i64 k)).setCell ⟨w2.heap.size + 1, 1, none⟩ (.int .i64 o)).setCell ⟨w2.heap.size + 1, 2, none⟩ (.int .i64 ra)).setCell ⟨w2.heap.size + 1, 3, none⟩ (.int .i64 rb)).setCell ⟨w2.heap.size + 1, 4, none⟩ (.int .i64 m)).setCell ⟨w2.heap.size + 1, 5, none⟩ (.int .i64 c)).setCell ⟨w2.heap.size + 1, 6, none⟩ (.int .i64 u)).setCell ⟨w2.heap.size + 1, 7, none⟩ (.int .i64 0)).setCell ⟨w2.heap.size + 1, 8, none⟩ (.int .i64 0)).setCell ⟨w2.heap.size + 1, 9, none⟩ (.int .i64 0)).setCell ⟨w2.heap.size + 1, 10, none⟩ (.int .i64 0))) (g := w2.heap.size) (b := w2.heap.size + 1) (by omega) k o ra rb m c u 0 0 0 0).trans (HQ2.out.put k o ra rb m c u 0 0 0 0)
      have h3 := Sg11.put_below (Sg11.put_below HQB.out (Nat.le_succ_of_le HZ2.out) k o ra rb m c u 0 0 0 0) HZ2.out k o ra rb m c u 0 0 0 0
      exact ⟨_, _, rfl, rfl, by omega, by omega, by omega, h2, h1, h3⟩
  case rest =>
    obtain ⟨g7, g8, rfl, rfl, hg7, hg8, hgg, h7, h8, hb⟩ := hcut
    obtain ⟨w3, hw3⟩ : ∃ w3, wc = w3 := ⟨_, rfl⟩
    rw [hw3] at h7 h8 hb ⊢
    have H7 := Lib.hid h7
    have H8 := Lib.hid h8
    have HBL := Lib.hid hb
    clear h7 h8 hb hw3 HBG HB2 HS2 hz2 HA
    go_wp2
    go_loopw [10, 23] (fun _ i wr => ∃ (j : Nat) (p e t y : Int), j ≤ n1 ∧ i = .int .i64 (j : Int) ∧ Sg11 wr g7 30 k o ra rb m c u p e t y ∧ Sg11 wr g8 30 k o ra rb m c u p e t y ∧ Below g w wr) (fun _ i _ => n1 - (intOf i).toNat)
    case atStart => exact ⟨0, 0, 0, 0, 0, Nat.zero_le _, rfl, H7.out, H8.out, HBL.out⟩
    case round =>
      obtain ⟨j, p, e, t, y, hj, rfl, h7, h8, hb⟩ := hrel
      have H7r := Lib.hid h7
      have H8r := Lib.hid h8
      have HBr := Lib.hid hb
      have hs7 := h7.lt
      have hs8 := h8.lt
      clear h7 h8 hb H7 H8 HBL
      by_cases hlt : j < n1
      · obtain ⟨b, hbb⟩ : ∃ b, bs[j]? = some b := ⟨_, List.getElem?_eq_getElem (by rw [HL.out]; exact hlt)⟩
        obtain ⟨ad, rfl, hat⟩ := (HR0.out.below (show Below w.heap.size w wr by rw [hg]; exact HBr.out)).at_ hbb
        have cf := flag_cell hat
        clear hat hbb
        have HRX := Lib.hid (HRD.out ⟨⟨k, o, ra, rb, m, c, u⟩, p, e, t, y⟩)
        have HLX := Lib.hid (HLG.out ⟨⟨k, o, ra, rb, m, c, u⟩, p, e, t, y⟩ b)
        have HWX := Lib.hid (HLW.out ⟨⟨k, o, ra, rb, m, c, u⟩, p, e, t, y⟩ b)
        have hrq := legS_rq ⟨⟨k, o, ra, rb, m, c, u⟩, p, e, t, y⟩ b
        obtain ⟨⟨rq', p', e', t', y'⟩, hS'⟩ : ∃ S', legS ⟨⟨k, o, ra, rb, m, c, u⟩, p, e, t, y⟩ b = S' := ⟨_, rfl⟩
        rw [hS'] at hrq HLX HWX
        dsimp only at hrq
        subst hrq
        unfold Sg.val at HLX HWX HRX
        unfold BoolRes readyS at HRX
        dsimp only at HLX HWX HRX
        clear hS'
        rcases (show (p = 0 ∧ c ≤ e) ∨ (p = 0 ∧ ¬ c ≤ e) ∨ ¬ p = 0 by omega) with ⟨hp, hl⟩ | ⟨hp, hl⟩ | hp
        · rw [decide_eq_true (show p = 0 ∧ c ≤ e from ⟨hp, hl⟩)] at HRX
          have q1 := eqT hp
          have q2 := decide_eq_true hl
          clear hp hl
          go_wp2
          obtain ⟨x0, x1, x2, x3, x4, x5, x6, x7, x8, x9, x10⟩ := H7r.out.after hs7
          obtain ⟨y0, y1, y2, y3, y4, y5, y6, y7, y8, y9, y10⟩ := H8r.out.after hs8
          refine wp_region_after (by kernel_rfl) (by kernel_rfl) ?_
          repeat (go_big_quiet_step (first | (go_at_call 9; exact after_call _ (HRX.out _))))
          refine wpQuiet_nil ?_
          intro _ hw'
          obtain ⟨q, rfl⟩ := hw'
          have C7 := Lib.hid (H7r.out.below q.below hs7)
          have C8 := Lib.hid (H8r.out.below q.below hs8)
          have CB := Lib.hid (HBr.out.trans (q.below.mono (Nat.le_of_lt (Nat.lt_trans hg7 hs7))))
          clear x0 x1 x2 x3 x4 x5 x6 x7 x8 x9 x10 y0 y1 y2 y3 y4 y5 y6 y7 y8 y9 y10
          generalize q.world = w4 at C7 C8 CB ⊢
          obtain ⟨x0, x1, x2, x3, x4, x5, x6, x7, x8, x9, x10⟩ := C7.out.cells
          obtain ⟨y0, y1, y2, y3, y4, y5, y6, y7, y8, y9, y10⟩ := C8.out.cells
          have zc : g < w4.heap.size := Nat.lt_trans hg7 C7.out.lt
          go_wp2
          refine wp_region_held_drew (S := fun _ => True) (by kernel_rfl) trivial (fun hHeld => ?_)
          refine take_at 1 47 (v := ?_) rfl rfl (by kernel_rfl) (by kernel_rfl) (by kernel_rfl) (fun _ _ _ h => h) (Or.inl ⟨by rfl, ?_⟩) (by assumption) ?_
          rotate_left
          · intro w' hSw
            go_simp
            (try with_reducible rfl)
          (try simp only [Act.put, List.setIfInBounds_toArray, List.set_cons_zero, List.set_cons_succ])
          refine take_at 4 50 (v := ?_) rfl rfl (by kernel_rfl) (by kernel_rfl) (by kernel_rfl) (fun _ _ _ h => h) (Or.inl ⟨by rfl, ?_⟩) (by assumption) ?_
          rotate_left
          · intro w' hSw
            go_simp
            (try with_reducible rfl)
          (try simp only [Act.put, List.setIfInBounds_toArray, List.set_cons_zero, List.set_cons_succ])
          refine wpAnyH_ready (rs := [0, 3]) (by kernel_rfl) (by simp) ?_
          refine AllReadyH.cons (i := 0) rfl (fun K hK => ?_) (AllReadyH.cons (i := 3) rfl (fun K hK => ?_) (AllReadyH.nil))
          · go_simp
            refine hK.out _ _ trivial (fun _ => ?_)
            clear hK K
            (try simp only [Act.put, List.setIfInBounds_toArray, List.set_cons_zero, List.set_cons_succ])
            refine wpAnyH_ready (rs := [2, 3]) (by kernel_rfl) (by simp) ?_
            refine AllReadyH.cons (i := 2) rfl (fun K hK => ?_) (AllReadyH.cons (i := 3) rfl (fun K hK => ?_) (AllReadyH.nil))
            · go_simp
              go_at_call 10
              refine (HLX.out _).mono ?_
              rintro _ w5 ⟨rfl, hb5⟩
              refine hK.out _ _ trivial (fun _ => ?_)
              clear hK K
              (try simp only [Act.put, List.setIfInBounds_toArray, List.set_cons_zero, List.set_cons_succ])
              have A7 := Lib.hid (C7.out.drew.below hb5 C7.out.lt)
              have A8 := Lib.hid (C8.out.drew.below hb5 C8.out.lt)
              have AB := Lib.hid (CB.out.drew.trans (hb5.mono (Nat.le_of_lt zc)))
              have za : g < w5.heap.size := by have := hb5.size; simp at this; omega
              clear hb5 x0 x1 x2 x3 x4 x5 x6 x7 x8 x9 x10 y0 y1 y2 y3 y4 y5 y6 y7 y8 y9 y10
              obtain ⟨x0, x1, x2, x3, x4, x5, x6, x7, x8, x9, x10⟩ := A7.out.cells
              obtain ⟨y0, y1, y2, y3, y4, y5, y6, y7, y8, y9, y10⟩ := A8.out.cells
              refine wpAnyH_ready (rs := [3]) (by kernel_rfl) (by simp) ?_
              refine AllReadyH.cons (i := 3) rfl (fun K hK => ?_) (AllReadyH.nil)
              go_simp
              refine hK.out _ _ trivial (fun _ => ?_)
              clear hK K
              (try simp only [Act.put, List.setIfInBounds_toArray, List.set_cons_zero, List.set_cons_succ])
              refine wpAnyH_ready (rs := [5]) (by kernel_rfl) (by simp) ?_
              refine AllReadyH.cons (i := 5) rfl (fun K hK => ?_) (AllReadyH.nil)
              go_simp
              go_at_call 11
              refine (HWX.out _).mono ?_
              rintro _ w6 ⟨rfl, hb6⟩
              refine hK.out _ _ trivial (fun _ => ?_)
              clear hK K
              (try simp only [Act.put, List.setIfInBounds_toArray, List.set_cons_zero, List.set_cons_succ])
              have B7 := Lib.hid (A7.out.below hb6 A7.out.lt)
              have B8 := Lib.hid (A8.out.below hb6 A8.out.lt)
              have BB := Lib.hid (AB.out.trans (hb6.mono (Nat.le_of_lt za)))
              have D7 := Lib.hid (B7.out.put k o ra rb m c u p' e' t' y')
              have D8 := Lib.hid (show Sg11 _ g8 30 k o ra rb m c u p e t y from (Sg11.put_other (w := w6) (g := g7) (b := g8) hgg k o ra rb m c u p' e' t' y').trans B8.out)
              have DB := Lib.hid (Sg11.put_below BB.out (Nat.le_of_lt hg7) k o ra rb m c u p' e' t' y')
              clear hb6 x0 x1 x2 x3 x4 x5 x6 x7 x8 x9 x10 y0 y1 y2 y3 y4 y5 y6 y7 y8 y9 y10
              obtain ⟨x0, x1, x2, x3, x4, x5, x6, x7, x8, x9, x10⟩ := B7.out.cells
              obtain ⟨f0, f1, f2, f3, f4, f5, f6, f7, f8, f9, f10⟩ := B7.out.loose
              refine wpAnyH_ready (rs := [6]) (by kernel_rfl) (by simp) ?_
              refine AllReadyH.cons (i := 6) rfl (fun K hK => ?_) (AllReadyH.nil)
              go_simp
              refine hK.out _ _ trivial (fun _ => ?_)
              clear hK K
              (try simp only [Act.put, List.setIfInBounds_toArray, List.set_cons_zero, List.set_cons_succ])
              clear x0 x1 x2 x3 x4 x5 x6 x7 x8 x9 x10 f0 f1 f2 f3 f4 f5 f6 f7 f8 f9 f10 B7 B8 BB A7 A8 AB
              generalize ((((((((((w6.setCell ⟨g7, 0, none⟩ (.int .i64 k)).setCell ⟨g7, 1, none⟩ (.int .i64 o)).setCell ⟨g7, 2, none⟩ (.int .i64 ra)).setCell ⟨g7, 3, none⟩ (.int .i64 rb)).setCell ⟨g7, 4, none⟩ (.int .i64 m)).setCell ⟨g7, 5, none⟩ (.int .i64 c)).setCell ⟨g7, 6, none⟩ (.int .i64 u)).setCell ⟨g7, 7, none⟩ (.int .i64 p')).setCell ⟨g7, 8, none⟩ (.int .i64 e')).setCell ⟨g7, 9, none⟩ (.int .i64 t')).setCell ⟨g7, 10, none⟩ (.int .i64 y') = w7 at D7 D8 DB ⊢
              obtain ⟨y0, y1, y2, y3, y4, y5, y6, y7, y8, y9, y10⟩ := D8.out.cells
              obtain ⟨e0, e1, e2, e3, e4, e5, e6, e7, e8, e9, e10⟩ := D8.out.loose
              refine wpAnyH_ready (rs := [7]) (by kernel_rfl) (by simp) ?_
              refine AllReadyH.cons (i := 7) rfl (fun K hK => ?_) (AllReadyH.nil)
              go_simp
              refine hK.out _ _ trivial (fun _ => ?_)
              clear hK K
              (try simp only [Act.put, List.setIfInBounds_toArray, List.set_cons_zero, List.set_cons_succ])
              refine wpAnyH_done (by kernel_rfl) ?_ _
              go_wp2
              go_roundw
              case rel => exact ⟨j + 1, p', e', t', y', by omega, by go_num, (Sg11.put_other (w := w7) (g := g8) (b := g7) (Ne.symm hgg) k o ra rb m c u p' e' t' y').trans D7.out, D8.out.put k o ra rb m c u p' e' t' y', Sg11.put_below DB.out (Nat.le_of_lt hg8) k o ra rb m c u p' e' t' y'⟩
              case measure => simp [intOf]; omega
            · go_simp
              refine hK.out _ _ trivial (fun _ => ?_)
              clear hK K
              (try simp only [Act.put, List.setIfInBounds_toArray, List.set_cons_zero, List.set_cons_succ])
              refine wpAnyH_ready (rs := [2]) (by kernel_rfl) (by simp) ?_
              refine AllReadyH.cons (i := 2) rfl (fun K hK => ?_) (AllReadyH.nil)
              go_simp
              go_at_call 10
              refine (HLX.out _).mono ?_
              rintro _ w5 ⟨rfl, hb5⟩
              refine hK.out _ _ trivial (fun _ => ?_)
              clear hK K
              (try simp only [Act.put, List.setIfInBounds_toArray, List.set_cons_zero, List.set_cons_succ])
              have A7 := Lib.hid (C7.out.drew.below hb5 C7.out.lt)
              have A8 := Lib.hid (C8.out.drew.below hb5 C8.out.lt)
              have AB := Lib.hid (CB.out.drew.trans (hb5.mono (Nat.le_of_lt zc)))
              have za : g < w5.heap.size := by have := hb5.size; simp at this; omega
              clear hb5 x0 x1 x2 x3 x4 x5 x6 x7 x8 x9 x10 y0 y1 y2 y3 y4 y5 y6 y7 y8 y9 y10
              obtain ⟨x0, x1, x2, x3, x4, x5, x6, x7, x8, x9, x10⟩ := A7.out.cells
              obtain ⟨y0, y1, y2, y3, y4, y5, y6, y7, y8, y9, y10⟩ := A8.out.cells
              refine wpAnyH_ready (rs := [5]) (by kernel_rfl) (by simp) ?_
              refine AllReadyH.cons (i := 5) rfl (fun K hK => ?_) (AllReadyH.nil)
              go_simp
              go_at_call 11
              refine (HWX.out _).mono ?_
              rintro _ w6 ⟨rfl, hb6⟩
              refine hK.out _ _ trivial (fun _ => ?_)
              clear hK K
              (try simp only [Act.put, List.setIfInBounds_toArray, List.set_cons_zero, List.set_cons_succ])
              have B7 := Lib.hid (A7.out.below hb6 A7.out.lt)
              have B8 := Lib.hid (A8.out.below hb6 A8.out.lt)
              have BB := Lib.hid (AB.out.trans (hb6.mono (Nat.le_of_lt za)))
              have D7 := Lib.hid (B7.out.put k o ra rb m c u p' e' t' y')
              have D8 := Lib.hid (show Sg11 _ g8 30 k o ra rb m c u p e t y from (Sg11.put_other (w := w6) (g := g7) (b := g8) hgg k o ra rb m c u p' e' t' y').trans B8.out)
              have DB := Lib.hid (Sg11.put_below BB.out (Nat.le_of_lt hg7) k o ra rb m c u p' e' t' y')
              clear hb6 x0 x1 x2 x3 x4 x5 x6 x7 x8 x9 x10 y0 y1 y2 y3 y4 y5 y6 y7 y8 y9 y10
              obtain ⟨x0, x1, x2, x3, x4, x5, x6, x7, x8, x9, x10⟩ := B7.out.cells
              obtain ⟨f0, f1, f2, f3, f4, f5, f6, f7, f8, f9, f10⟩ := B7.out.loose
              refine wpAnyH_ready (rs := [6]) (by kernel_rfl) (by simp) ?_
              refine AllReadyH.cons (i := 6) rfl (fun K hK => ?_) (AllReadyH.nil)
              go_simp
              refine hK.out _ _ trivial (fun _ => ?_)
              clear hK K
              (try simp only [Act.put, List.setIfInBounds_toArray, List.set_cons_zero, List.set_cons_succ])
              clear x0 x1 x2 x3 x4 x5 x6 x7 x8 x9 x10 f0 f1 f2 f3 f4 f5 f6 f7 f8 f9 f10 B7 B8 BB A7 A8 AB
              generalize ((((((((((w6.setCell ⟨g7, 0, none⟩ (.int .i64 k)).setCell ⟨g7, 1, none⟩ (.int .i64 o)).setCell ⟨g7, 2, none⟩ (.int .i64 ra)).setCell ⟨g7, 3, none⟩ (.int .i64 rb)).setCell ⟨g7, 4, none⟩ (.int .i64 m)).setCell ⟨g7, 5, none⟩ (.int .i64 c)).setCell ⟨g7, 6, none⟩ (.int .i64 u)).setCell ⟨g7, 7, none⟩ (.int .i64 p')).setCell ⟨g7, 8, none⟩ (.int .i64 e')).setCell ⟨g7, 9, none⟩ (.int .i64 t')).setCell ⟨g7, 10, none⟩ (.int .i64 y') = w7 at D7 D8 DB ⊢
              obtain ⟨y0, y1, y2, y3, y4, y5, y6, y7, y8, y9, y10⟩ := D8.out.cells
              obtain ⟨e0, e1, e2, e3, e4, e5, e6, e7, e8, e9, e10⟩ := D8.out.loose
              refine wpAnyH_ready (rs := [7]) (by kernel_rfl) (by simp) ?_
              refine AllReadyH.cons (i := 7) rfl (fun K hK => ?_) (AllReadyH.nil)
              go_simp
              refine hK.out _ _ trivial (fun _ => ?_)
              clear hK K
              (try simp only [Act.put, List.setIfInBounds_toArray, List.set_cons_zero, List.set_cons_succ])
              refine wpAnyH_done (by kernel_rfl) ?_ _
              go_wp2
              go_roundw
              case rel => exact ⟨j + 1, p', e', t', y', by omega, by go_num, (Sg11.put_other (w := w7) (g := g8) (b := g7) (Ne.symm hgg) k o ra rb m c u p' e' t' y').trans D7.out, D8.out.put k o ra rb m c u p' e' t' y', Sg11.put_below DB.out (Nat.le_of_lt hg8) k o ra rb m c u p' e' t' y'⟩
              case measure => simp [intOf]; omega
          · go_simp
            refine hK.out _ _ trivial (fun _ => ?_)
            clear hK K
            (try simp only [Act.put, List.setIfInBounds_toArray, List.set_cons_zero, List.set_cons_succ])
            refine wpAnyH_ready (rs := [0]) (by kernel_rfl) (by simp) ?_
            refine AllReadyH.cons (i := 0) rfl (fun K hK => ?_) (AllReadyH.nil)
            go_simp
            refine hK.out _ _ trivial (fun _ => ?_)
            clear hK K
            (try simp only [Act.put, List.setIfInBounds_toArray, List.set_cons_zero, List.set_cons_succ])
            refine wpAnyH_ready (rs := [2]) (by kernel_rfl) (by simp) ?_
            refine AllReadyH.cons (i := 2) rfl (fun K hK => ?_) (AllReadyH.nil)
            go_simp
            go_at_call 10
            refine (HLX.out _).mono ?_
            rintro _ w5 ⟨rfl, hb5⟩
            refine hK.out _ _ trivial (fun _ => ?_)
            clear hK K
            (try simp only [Act.put, List.setIfInBounds_toArray, List.set_cons_zero, List.set_cons_succ])
            have A7 := Lib.hid (C7.out.drew.below hb5 C7.out.lt)
            have A8 := Lib.hid (C8.out.drew.below hb5 C8.out.lt)
            have AB := Lib.hid (CB.out.drew.trans (hb5.mono (Nat.le_of_lt zc)))
            have za : g < w5.heap.size := by have := hb5.size; simp at this; omega
            clear hb5 x0 x1 x2 x3 x4 x5 x6 x7 x8 x9 x10 y0 y1 y2 y3 y4 y5 y6 y7 y8 y9 y10
            obtain ⟨x0, x1, x2, x3, x4, x5, x6, x7, x8, x9, x10⟩ := A7.out.cells
            obtain ⟨y0, y1, y2, y3, y4, y5, y6, y7, y8, y9, y10⟩ := A8.out.cells
            refine wpAnyH_ready (rs := [5]) (by kernel_rfl) (by simp) ?_
            refine AllReadyH.cons (i := 5) rfl (fun K hK => ?_) (AllReadyH.nil)
            go_simp
            go_at_call 11
            refine (HWX.out _).mono ?_
            rintro _ w6 ⟨rfl, hb6⟩
            refine hK.out _ _ trivial (fun _ => ?_)
            clear hK K
            (try simp only [Act.put, List.setIfInBounds_toArray, List.set_cons_zero, List.set_cons_succ])
            have B7 := Lib.hid (A7.out.below hb6 A7.out.lt)
            have B8 := Lib.hid (A8.out.below hb6 A8.out.lt)
            have BB := Lib.hid (AB.out.trans (hb6.mono (Nat.le_of_lt za)))
            have D7 := Lib.hid (B7.out.put k o ra rb m c u p' e' t' y')
            have D8 := Lib.hid (show Sg11 _ g8 30 k o ra rb m c u p e t y from (Sg11.put_other (w := w6) (g := g7) (b := g8) hgg k o ra rb m c u p' e' t' y').trans B8.out)
            have DB := Lib.hid (Sg11.put_below BB.out (Nat.le_of_lt hg7) k o ra rb m c u p' e' t' y')
            clear hb6 x0 x1 x2 x3 x4 x5 x6 x7 x8 x9 x10 y0 y1 y2 y3 y4 y5 y6 y7 y8 y9 y10
            obtain ⟨x0, x1, x2, x3, x4, x5, x6, x7, x8, x9, x10⟩ := B7.out.cells
            obtain ⟨f0, f1, f2, f3, f4, f5, f6, f7, f8, f9, f10⟩ := B7.out.loose
            refine wpAnyH_ready (rs := [6]) (by kernel_rfl) (by simp) ?_
            refine AllReadyH.cons (i := 6) rfl (fun K hK => ?_) (AllReadyH.nil)
            go_simp
            refine hK.out _ _ trivial (fun _ => ?_)
            clear hK K
            (try simp only [Act.put, List.setIfInBounds_toArray, List.set_cons_zero, List.set_cons_succ])
            clear x0 x1 x2 x3 x4 x5 x6 x7 x8 x9 x10 f0 f1 f2 f3 f4 f5 f6 f7 f8 f9 f10 B7 B8 BB A7 A8 AB
            generalize ((((((((((w6.setCell ⟨g7, 0, none⟩ (.int .i64 k)).setCell ⟨g7, 1, none⟩ (.int .i64 o)).setCell ⟨g7, 2, none⟩ (.int .i64 ra)).setCell ⟨g7, 3, none⟩ (.int .i64 rb)).setCell ⟨g7, 4, none⟩ (.int .i64 m)).setCell ⟨g7, 5, none⟩ (.int .i64 c)).setCell ⟨g7, 6, none⟩ (.int .i64 u)).setCell ⟨g7, 7, none⟩ (.int .i64 p')).setCell ⟨g7, 8, none⟩ (.int .i64 e')).setCell ⟨g7, 9, none⟩ (.int .i64 t')).setCell ⟨g7, 10, none⟩ (.int .i64 y') = w7 at D7 D8 DB ⊢
            obtain ⟨y0, y1, y2, y3, y4, y5, y6, y7, y8, y9, y10⟩ := D8.out.cells
            obtain ⟨e0, e1, e2, e3, e4, e5, e6, e7, e8, e9, e10⟩ := D8.out.loose
            refine wpAnyH_ready (rs := [7]) (by kernel_rfl) (by simp) ?_
            refine AllReadyH.cons (i := 7) rfl (fun K hK => ?_) (AllReadyH.nil)
            go_simp
            refine hK.out _ _ trivial (fun _ => ?_)
            clear hK K
            (try simp only [Act.put, List.setIfInBounds_toArray, List.set_cons_zero, List.set_cons_succ])
            refine wpAnyH_done (by kernel_rfl) ?_ _
            go_wp2
            go_roundw
            case rel => exact ⟨j + 1, p', e', t', y', by omega, by go_num, (Sg11.put_other (w := w7) (g := g8) (b := g7) (Ne.symm hgg) k o ra rb m c u p' e' t' y').trans D7.out, D8.out.put k o ra rb m c u p' e' t' y', Sg11.put_below DB.out (Nat.le_of_lt hg8) k o ra rb m c u p' e' t' y'⟩
            case measure => simp [intOf]; omega
        · rw [decide_eq_false (show ¬ (p = 0 ∧ c ≤ e) from fun h => hl h.2)] at HRX
          have q1 := eqT hp
          have q2 := decide_eq_false hl
          clear hp hl
          go_wp2
          obtain ⟨x0, x1, x2, x3, x4, x5, x6, x7, x8, x9, x10⟩ := H7r.out.after hs7
          obtain ⟨y0, y1, y2, y3, y4, y5, y6, y7, y8, y9, y10⟩ := H8r.out.after hs8
          refine wp_region_after (by kernel_rfl) (by kernel_rfl) ?_
          repeat (go_big_quiet_step (first | (go_at_call 9; exact after_call _ (HRX.out _))))
          refine wpQuiet_nil ?_
          intro _ hw'
          obtain ⟨q, rfl⟩ := hw'
          have C7 := Lib.hid (H7r.out.below q.below hs7)
          have C8 := Lib.hid (H8r.out.below q.below hs8)
          have CB := Lib.hid (HBr.out.trans (q.below.mono (Nat.le_of_lt (Nat.lt_trans hg7 hs7))))
          clear x0 x1 x2 x3 x4 x5 x6 x7 x8 x9 x10 y0 y1 y2 y3 y4 y5 y6 y7 y8 y9 y10
          generalize q.world = w4 at C7 C8 CB ⊢
          obtain ⟨x0, x1, x2, x3, x4, x5, x6, x7, x8, x9, x10⟩ := C7.out.cells
          obtain ⟨y0, y1, y2, y3, y4, y5, y6, y7, y8, y9, y10⟩ := C8.out.cells
          have zc : g < w4.heap.size := Nat.lt_trans hg7 C7.out.lt
          go_wp2
          refine wp_region_held_drew (S := fun _ => True) (by kernel_rfl) trivial (fun hHeld => ?_)
          refine take_at 1 47 (v := ?_) rfl rfl (by kernel_rfl) (by kernel_rfl) (by kernel_rfl) (fun _ _ _ h => h) (Or.inl ⟨by rfl, ?_⟩) (by assumption) ?_
          rotate_left
          · intro w' hSw
            go_simp
            (try with_reducible rfl)
          (try simp only [Act.put, List.setIfInBounds_toArray, List.set_cons_zero, List.set_cons_succ])
          refine take_at 4 50 (v := ?_) rfl rfl (by kernel_rfl) (by kernel_rfl) (by kernel_rfl) (fun _ _ _ h => h) (Or.inl ⟨by rfl, ?_⟩) (by assumption) ?_
          rotate_left
          · intro w' hSw
            go_simp
            (try with_reducible rfl)
          (try simp only [Act.put, List.setIfInBounds_toArray, List.set_cons_zero, List.set_cons_succ])
          refine wpAnyH_ready (rs := [0, 3]) (by kernel_rfl) (by simp) ?_
          refine AllReadyH.cons (i := 0) rfl (fun K hK => ?_) (AllReadyH.cons (i := 3) rfl (fun K hK => ?_) (AllReadyH.nil))
          · go_simp
            refine hK.out _ _ trivial (fun _ => ?_)
            clear hK K
            (try simp only [Act.put, List.setIfInBounds_toArray, List.set_cons_zero, List.set_cons_succ])
            refine wpAnyH_ready (rs := [2, 3]) (by kernel_rfl) (by simp) ?_
            refine AllReadyH.cons (i := 2) rfl (fun K hK => ?_) (AllReadyH.cons (i := 3) rfl (fun K hK => ?_) (AllReadyH.nil))
            · go_simp
              go_at_call 10
              refine (HLX.out _).mono ?_
              rintro _ w5 ⟨rfl, hb5⟩
              refine hK.out _ _ trivial (fun _ => ?_)
              clear hK K
              (try simp only [Act.put, List.setIfInBounds_toArray, List.set_cons_zero, List.set_cons_succ])
              have A7 := Lib.hid (C7.out.drew.below hb5 C7.out.lt)
              have A8 := Lib.hid (C8.out.drew.below hb5 C8.out.lt)
              have AB := Lib.hid (CB.out.drew.trans (hb5.mono (Nat.le_of_lt zc)))
              have za : g < w5.heap.size := by have := hb5.size; simp at this; omega
              clear hb5 x0 x1 x2 x3 x4 x5 x6 x7 x8 x9 x10 y0 y1 y2 y3 y4 y5 y6 y7 y8 y9 y10
              obtain ⟨x0, x1, x2, x3, x4, x5, x6, x7, x8, x9, x10⟩ := A7.out.cells
              obtain ⟨y0, y1, y2, y3, y4, y5, y6, y7, y8, y9, y10⟩ := A8.out.cells
              refine wpAnyH_ready (rs := [3]) (by kernel_rfl) (by simp) ?_
              refine AllReadyH.cons (i := 3) rfl (fun K hK => ?_) (AllReadyH.nil)
              go_simp
              refine hK.out _ _ trivial (fun _ => ?_)
              clear hK K
              (try simp only [Act.put, List.setIfInBounds_toArray, List.set_cons_zero, List.set_cons_succ])
              refine wpAnyH_ready (rs := [5]) (by kernel_rfl) (by simp) ?_
              refine AllReadyH.cons (i := 5) rfl (fun K hK => ?_) (AllReadyH.nil)
              go_simp
              go_at_call 11
              refine (HWX.out _).mono ?_
              rintro _ w6 ⟨rfl, hb6⟩
              refine hK.out _ _ trivial (fun _ => ?_)
              clear hK K
              (try simp only [Act.put, List.setIfInBounds_toArray, List.set_cons_zero, List.set_cons_succ])
              have B7 := Lib.hid (A7.out.below hb6 A7.out.lt)
              have B8 := Lib.hid (A8.out.below hb6 A8.out.lt)
              have BB := Lib.hid (AB.out.trans (hb6.mono (Nat.le_of_lt za)))
              have D7 := Lib.hid (B7.out.put k o ra rb m c u p' e' t' y')
              have D8 := Lib.hid (show Sg11 _ g8 30 k o ra rb m c u p e t y from (Sg11.put_other (w := w6) (g := g7) (b := g8) hgg k o ra rb m c u p' e' t' y').trans B8.out)
              have DB := Lib.hid (Sg11.put_below BB.out (Nat.le_of_lt hg7) k o ra rb m c u p' e' t' y')
              clear hb6 x0 x1 x2 x3 x4 x5 x6 x7 x8 x9 x10 y0 y1 y2 y3 y4 y5 y6 y7 y8 y9 y10
              obtain ⟨x0, x1, x2, x3, x4, x5, x6, x7, x8, x9, x10⟩ := B7.out.cells
              obtain ⟨f0, f1, f2, f3, f4, f5, f6, f7, f8, f9, f10⟩ := B7.out.loose
              refine wpAnyH_ready (rs := [6]) (by kernel_rfl) (by simp) ?_
              refine AllReadyH.cons (i := 6) rfl (fun K hK => ?_) (AllReadyH.nil)
              go_simp
              refine hK.out _ _ trivial (fun _ => ?_)
              clear hK K
              (try simp only [Act.put, List.setIfInBounds_toArray, List.set_cons_zero, List.set_cons_succ])
              clear x0 x1 x2 x3 x4 x5 x6 x7 x8 x9 x10 f0 f1 f2 f3 f4 f5 f6 f7 f8 f9 f10 B7 B8 BB A7 A8 AB
              generalize ((((((((((w6.setCell ⟨g7, 0, none⟩ (.int .i64 k)).setCell ⟨g7, 1, none⟩ (.int .i64 o)).setCell ⟨g7, 2, none⟩ (.int .i64 ra)).setCell ⟨g7, 3, none⟩ (.int .i64 rb)).setCell ⟨g7, 4, none⟩ (.int .i64 m)).setCell ⟨g7, 5, none⟩ (.int .i64 c)).setCell ⟨g7, 6, none⟩ (.int .i64 u)).setCell ⟨g7, 7, none⟩ (.int .i64 p')).setCell ⟨g7, 8, none⟩ (.int .i64 e')).setCell ⟨g7, 9, none⟩ (.int .i64 t')).setCell ⟨g7, 10, none⟩ (.int .i64 y') = w7 at D7 D8 DB ⊢
              obtain ⟨y0, y1, y2, y3, y4, y5, y6, y7, y8, y9, y10⟩ := D8.out.cells
              obtain ⟨e0, e1, e2, e3, e4, e5, e6, e7, e8, e9, e10⟩ := D8.out.loose
              refine wpAnyH_ready (rs := [7]) (by kernel_rfl) (by simp) ?_
              refine AllReadyH.cons (i := 7) rfl (fun K hK => ?_) (AllReadyH.nil)
              go_simp
              refine hK.out _ _ trivial (fun _ => ?_)
              clear hK K
              (try simp only [Act.put, List.setIfInBounds_toArray, List.set_cons_zero, List.set_cons_succ])
              refine wpAnyH_done (by kernel_rfl) ?_ _
              go_wp2
              go_roundw
              case rel => exact ⟨j + 1, p', e', t', y', by omega, by go_num, (Sg11.put_other (w := w7) (g := g8) (b := g7) (Ne.symm hgg) k o ra rb m c u p' e' t' y').trans D7.out, D8.out.put k o ra rb m c u p' e' t' y', Sg11.put_below DB.out (Nat.le_of_lt hg8) k o ra rb m c u p' e' t' y'⟩
              case measure => simp [intOf]; omega
            · go_simp
              refine hK.out _ _ trivial (fun _ => ?_)
              clear hK K
              (try simp only [Act.put, List.setIfInBounds_toArray, List.set_cons_zero, List.set_cons_succ])
              refine wpAnyH_ready (rs := [2]) (by kernel_rfl) (by simp) ?_
              refine AllReadyH.cons (i := 2) rfl (fun K hK => ?_) (AllReadyH.nil)
              go_simp
              go_at_call 10
              refine (HLX.out _).mono ?_
              rintro _ w5 ⟨rfl, hb5⟩
              refine hK.out _ _ trivial (fun _ => ?_)
              clear hK K
              (try simp only [Act.put, List.setIfInBounds_toArray, List.set_cons_zero, List.set_cons_succ])
              have A7 := Lib.hid (C7.out.drew.below hb5 C7.out.lt)
              have A8 := Lib.hid (C8.out.drew.below hb5 C8.out.lt)
              have AB := Lib.hid (CB.out.drew.trans (hb5.mono (Nat.le_of_lt zc)))
              have za : g < w5.heap.size := by have := hb5.size; simp at this; omega
              clear hb5 x0 x1 x2 x3 x4 x5 x6 x7 x8 x9 x10 y0 y1 y2 y3 y4 y5 y6 y7 y8 y9 y10
              obtain ⟨x0, x1, x2, x3, x4, x5, x6, x7, x8, x9, x10⟩ := A7.out.cells
              obtain ⟨y0, y1, y2, y3, y4, y5, y6, y7, y8, y9, y10⟩ := A8.out.cells
              refine wpAnyH_ready (rs := [5]) (by kernel_rfl) (by simp) ?_
              refine AllReadyH.cons (i := 5) rfl (fun K hK => ?_) (AllReadyH.nil)
              go_simp
              go_at_call 11
              refine (HWX.out _).mono ?_
              rintro _ w6 ⟨rfl, hb6⟩
              refine hK.out _ _ trivial (fun _ => ?_)
              clear hK K
              (try simp only [Act.put, List.setIfInBounds_toArray, List.set_cons_zero, List.set_cons_succ])
              have B7 := Lib.hid (A7.out.below hb6 A7.out.lt)
              have B8 := Lib.hid (A8.out.below hb6 A8.out.lt)
              have BB := Lib.hid (AB.out.trans (hb6.mono (Nat.le_of_lt za)))
              have D7 := Lib.hid (B7.out.put k o ra rb m c u p' e' t' y')
              have D8 := Lib.hid (show Sg11 _ g8 30 k o ra rb m c u p e t y from (Sg11.put_other (w := w6) (g := g7) (b := g8) hgg k o ra rb m c u p' e' t' y').trans B8.out)
              have DB := Lib.hid (Sg11.put_below BB.out (Nat.le_of_lt hg7) k o ra rb m c u p' e' t' y')
              clear hb6 x0 x1 x2 x3 x4 x5 x6 x7 x8 x9 x10 y0 y1 y2 y3 y4 y5 y6 y7 y8 y9 y10
              obtain ⟨x0, x1, x2, x3, x4, x5, x6, x7, x8, x9, x10⟩ := B7.out.cells
              obtain ⟨f0, f1, f2, f3, f4, f5, f6, f7, f8, f9, f10⟩ := B7.out.loose
              refine wpAnyH_ready (rs := [6]) (by kernel_rfl) (by simp) ?_
              refine AllReadyH.cons (i := 6) rfl (fun K hK => ?_) (AllReadyH.nil)
              go_simp
              refine hK.out _ _ trivial (fun _ => ?_)
              clear hK K
              (try simp only [Act.put, List.setIfInBounds_toArray, List.set_cons_zero, List.set_cons_succ])
              clear x0 x1 x2 x3 x4 x5 x6 x7 x8 x9 x10 f0 f1 f2 f3 f4 f5 f6 f7 f8 f9 f10 B7 B8 BB A7 A8 AB
              generalize ((((((((((w6.setCell ⟨g7, 0, none⟩ (.int .i64 k)).setCell ⟨g7, 1, none⟩ (.int .i64 o)).setCell ⟨g7, 2, none⟩ (.int .i64 ra)).setCell ⟨g7, 3, none⟩ (.int .i64 rb)).setCell ⟨g7, 4, none⟩ (.int .i64 m)).setCell ⟨g7, 5, none⟩ (.int .i64 c)).setCell ⟨g7, 6, none⟩ (.int .i64 u)).setCell ⟨g7, 7, none⟩ (.int .i64 p')).setCell ⟨g7, 8, none⟩ (.int .i64 e')).setCell ⟨g7, 9, none⟩ (.int .i64 t')).setCell ⟨g7, 10, none⟩ (.int .i64 y') = w7 at D7 D8 DB ⊢
              obtain ⟨y0, y1, y2, y3, y4, y5, y6, y7, y8, y9, y10⟩ := D8.out.cells
              obtain ⟨e0, e1, e2, e3, e4, e5, e6, e7, e8, e9, e10⟩ := D8.out.loose
              refine wpAnyH_ready (rs := [7]) (by kernel_rfl) (by simp) ?_
              refine AllReadyH.cons (i := 7) rfl (fun K hK => ?_) (AllReadyH.nil)
              go_simp
              refine hK.out _ _ trivial (fun _ => ?_)
              clear hK K
              (try simp only [Act.put, List.setIfInBounds_toArray, List.set_cons_zero, List.set_cons_succ])
              refine wpAnyH_done (by kernel_rfl) ?_ _
              go_wp2
              go_roundw
              case rel => exact ⟨j + 1, p', e', t', y', by omega, by go_num, (Sg11.put_other (w := w7) (g := g8) (b := g7) (Ne.symm hgg) k o ra rb m c u p' e' t' y').trans D7.out, D8.out.put k o ra rb m c u p' e' t' y', Sg11.put_below DB.out (Nat.le_of_lt hg8) k o ra rb m c u p' e' t' y'⟩
              case measure => simp [intOf]; omega
          · go_simp
            refine hK.out _ _ trivial (fun _ => ?_)
            clear hK K
            (try simp only [Act.put, List.setIfInBounds_toArray, List.set_cons_zero, List.set_cons_succ])
            refine wpAnyH_ready (rs := [0]) (by kernel_rfl) (by simp) ?_
            refine AllReadyH.cons (i := 0) rfl (fun K hK => ?_) (AllReadyH.nil)
            go_simp
            refine hK.out _ _ trivial (fun _ => ?_)
            clear hK K
            (try simp only [Act.put, List.setIfInBounds_toArray, List.set_cons_zero, List.set_cons_succ])
            refine wpAnyH_ready (rs := [2]) (by kernel_rfl) (by simp) ?_
            refine AllReadyH.cons (i := 2) rfl (fun K hK => ?_) (AllReadyH.nil)
            go_simp
            go_at_call 10
            refine (HLX.out _).mono ?_
            rintro _ w5 ⟨rfl, hb5⟩
            refine hK.out _ _ trivial (fun _ => ?_)
            clear hK K
            (try simp only [Act.put, List.setIfInBounds_toArray, List.set_cons_zero, List.set_cons_succ])
            have A7 := Lib.hid (C7.out.drew.below hb5 C7.out.lt)
            have A8 := Lib.hid (C8.out.drew.below hb5 C8.out.lt)
            have AB := Lib.hid (CB.out.drew.trans (hb5.mono (Nat.le_of_lt zc)))
            have za : g < w5.heap.size := by have := hb5.size; simp at this; omega
            clear hb5 x0 x1 x2 x3 x4 x5 x6 x7 x8 x9 x10 y0 y1 y2 y3 y4 y5 y6 y7 y8 y9 y10
            obtain ⟨x0, x1, x2, x3, x4, x5, x6, x7, x8, x9, x10⟩ := A7.out.cells
            obtain ⟨y0, y1, y2, y3, y4, y5, y6, y7, y8, y9, y10⟩ := A8.out.cells
            refine wpAnyH_ready (rs := [5]) (by kernel_rfl) (by simp) ?_
            refine AllReadyH.cons (i := 5) rfl (fun K hK => ?_) (AllReadyH.nil)
            go_simp
            go_at_call 11
            refine (HWX.out _).mono ?_
            rintro _ w6 ⟨rfl, hb6⟩
            refine hK.out _ _ trivial (fun _ => ?_)
            clear hK K
            (try simp only [Act.put, List.setIfInBounds_toArray, List.set_cons_zero, List.set_cons_succ])
            have B7 := Lib.hid (A7.out.below hb6 A7.out.lt)
            have B8 := Lib.hid (A8.out.below hb6 A8.out.lt)
            have BB := Lib.hid (AB.out.trans (hb6.mono (Nat.le_of_lt za)))
            have D7 := Lib.hid (B7.out.put k o ra rb m c u p' e' t' y')
            have D8 := Lib.hid (show Sg11 _ g8 30 k o ra rb m c u p e t y from (Sg11.put_other (w := w6) (g := g7) (b := g8) hgg k o ra rb m c u p' e' t' y').trans B8.out)
            have DB := Lib.hid (Sg11.put_below BB.out (Nat.le_of_lt hg7) k o ra rb m c u p' e' t' y')
            clear hb6 x0 x1 x2 x3 x4 x5 x6 x7 x8 x9 x10 y0 y1 y2 y3 y4 y5 y6 y7 y8 y9 y10
            obtain ⟨x0, x1, x2, x3, x4, x5, x6, x7, x8, x9, x10⟩ := B7.out.cells
            obtain ⟨f0, f1, f2, f3, f4, f5, f6, f7, f8, f9, f10⟩ := B7.out.loose
            refine wpAnyH_ready (rs := [6]) (by kernel_rfl) (by simp) ?_
            refine AllReadyH.cons (i := 6) rfl (fun K hK => ?_) (AllReadyH.nil)
            go_simp
            refine hK.out _ _ trivial (fun _ => ?_)
            clear hK K
            (try simp only [Act.put, List.setIfInBounds_toArray, List.set_cons_zero, List.set_cons_succ])
            clear x0 x1 x2 x3 x4 x5 x6 x7 x8 x9 x10 f0 f1 f2 f3 f4 f5 f6 f7 f8 f9 f10 B7 B8 BB A7 A8 AB
            generalize ((((((((((w6.setCell ⟨g7, 0, none⟩ (.int .i64 k)).setCell ⟨g7, 1, none⟩ (.int .i64 o)).setCell ⟨g7, 2, none⟩ (.int .i64 ra)).setCell ⟨g7, 3, none⟩ (.int .i64 rb)).setCell ⟨g7, 4, none⟩ (.int .i64 m)).setCell ⟨g7, 5, none⟩ (.int .i64 c)).setCell ⟨g7, 6, none⟩ (.int .i64 u)).setCell ⟨g7, 7, none⟩ (.int .i64 p')).setCell ⟨g7, 8, none⟩ (.int .i64 e')).setCell ⟨g7, 9, none⟩ (.int .i64 t')).setCell ⟨g7, 10, none⟩ (.int .i64 y') = w7 at D7 D8 DB ⊢
            obtain ⟨y0, y1, y2, y3, y4, y5, y6, y7, y8, y9, y10⟩ := D8.out.cells
            obtain ⟨e0, e1, e2, e3, e4, e5, e6, e7, e8, e9, e10⟩ := D8.out.loose
            refine wpAnyH_ready (rs := [7]) (by kernel_rfl) (by simp) ?_
            refine AllReadyH.cons (i := 7) rfl (fun K hK => ?_) (AllReadyH.nil)
            go_simp
            refine hK.out _ _ trivial (fun _ => ?_)
            clear hK K
            (try simp only [Act.put, List.setIfInBounds_toArray, List.set_cons_zero, List.set_cons_succ])
            refine wpAnyH_done (by kernel_rfl) ?_ _
            go_wp2
            go_roundw
            case rel => exact ⟨j + 1, p', e', t', y', by omega, by go_num, (Sg11.put_other (w := w7) (g := g8) (b := g7) (Ne.symm hgg) k o ra rb m c u p' e' t' y').trans D7.out, D8.out.put k o ra rb m c u p' e' t' y', Sg11.put_below DB.out (Nat.le_of_lt hg8) k o ra rb m c u p' e' t' y'⟩
            case measure => simp [intOf]; omega
        · rw [decide_eq_false (show ¬ (p = 0 ∧ c ≤ e) from fun h => hp h.1)] at HRX
          have q1 := eqF hp
          clear hp
          go_wp2
          obtain ⟨x0, x1, x2, x3, x4, x5, x6, x7, x8, x9, x10⟩ := H7r.out.after hs7
          obtain ⟨y0, y1, y2, y3, y4, y5, y6, y7, y8, y9, y10⟩ := H8r.out.after hs8
          refine wp_region_after (by kernel_rfl) (by kernel_rfl) ?_
          repeat (go_big_quiet_step (first | (go_at_call 9; exact after_call _ (HRX.out _))))
          refine wpQuiet_nil ?_
          intro _ hw'
          obtain ⟨q, rfl⟩ := hw'
          have C7 := Lib.hid (H7r.out.below q.below hs7)
          have C8 := Lib.hid (H8r.out.below q.below hs8)
          have CB := Lib.hid (HBr.out.trans (q.below.mono (Nat.le_of_lt (Nat.lt_trans hg7 hs7))))
          clear x0 x1 x2 x3 x4 x5 x6 x7 x8 x9 x10 y0 y1 y2 y3 y4 y5 y6 y7 y8 y9 y10
          generalize q.world = w4 at C7 C8 CB ⊢
          obtain ⟨x0, x1, x2, x3, x4, x5, x6, x7, x8, x9, x10⟩ := C7.out.cells
          obtain ⟨y0, y1, y2, y3, y4, y5, y6, y7, y8, y9, y10⟩ := C8.out.cells
          have zc : g < w4.heap.size := Nat.lt_trans hg7 C7.out.lt
          go_wp2
          refine wp_region_held_drew (S := fun _ => True) (by kernel_rfl) trivial (fun hHeld => ?_)
          refine take_at 1 47 (v := ?_) rfl rfl (by kernel_rfl) (by kernel_rfl) (by kernel_rfl) (fun _ _ _ h => h) (Or.inl ⟨by rfl, ?_⟩) (by assumption) ?_
          rotate_left
          · intro w' hSw
            go_simp
            (try with_reducible rfl)
          (try simp only [Act.put, List.setIfInBounds_toArray, List.set_cons_zero, List.set_cons_succ])
          refine take_at 4 50 (v := ?_) rfl rfl (by kernel_rfl) (by kernel_rfl) (by kernel_rfl) (fun _ _ _ h => h) (Or.inl ⟨by rfl, ?_⟩) (by assumption) ?_
          rotate_left
          · intro w' hSw
            go_simp
            (try with_reducible rfl)
          (try simp only [Act.put, List.setIfInBounds_toArray, List.set_cons_zero, List.set_cons_succ])
          refine wpAnyH_ready (rs := [0, 3]) (by kernel_rfl) (by simp) ?_
          refine AllReadyH.cons (i := 0) rfl (fun K hK => ?_) (AllReadyH.cons (i := 3) rfl (fun K hK => ?_) (AllReadyH.nil))
          · go_simp
            refine hK.out _ _ trivial (fun _ => ?_)
            clear hK K
            (try simp only [Act.put, List.setIfInBounds_toArray, List.set_cons_zero, List.set_cons_succ])
            refine wpAnyH_ready (rs := [2, 3]) (by kernel_rfl) (by simp) ?_
            refine AllReadyH.cons (i := 2) rfl (fun K hK => ?_) (AllReadyH.cons (i := 3) rfl (fun K hK => ?_) (AllReadyH.nil))
            · go_simp
              go_at_call 10
              refine (HLX.out _).mono ?_
              rintro _ w5 ⟨rfl, hb5⟩
              refine hK.out _ _ trivial (fun _ => ?_)
              clear hK K
              (try simp only [Act.put, List.setIfInBounds_toArray, List.set_cons_zero, List.set_cons_succ])
              have A7 := Lib.hid (C7.out.drew.below hb5 C7.out.lt)
              have A8 := Lib.hid (C8.out.drew.below hb5 C8.out.lt)
              have AB := Lib.hid (CB.out.drew.trans (hb5.mono (Nat.le_of_lt zc)))
              have za : g < w5.heap.size := by have := hb5.size; simp at this; omega
              clear hb5 x0 x1 x2 x3 x4 x5 x6 x7 x8 x9 x10 y0 y1 y2 y3 y4 y5 y6 y7 y8 y9 y10
              obtain ⟨x0, x1, x2, x3, x4, x5, x6, x7, x8, x9, x10⟩ := A7.out.cells
              obtain ⟨y0, y1, y2, y3, y4, y5, y6, y7, y8, y9, y10⟩ := A8.out.cells
              refine wpAnyH_ready (rs := [3]) (by kernel_rfl) (by simp) ?_
              refine AllReadyH.cons (i := 3) rfl (fun K hK => ?_) (AllReadyH.nil)
              go_simp
              refine hK.out _ _ trivial (fun _ => ?_)
              clear hK K
              (try simp only [Act.put, List.setIfInBounds_toArray, List.set_cons_zero, List.set_cons_succ])
              refine wpAnyH_ready (rs := [5]) (by kernel_rfl) (by simp) ?_
              refine AllReadyH.cons (i := 5) rfl (fun K hK => ?_) (AllReadyH.nil)
              go_simp
              go_at_call 11
              refine (HWX.out _).mono ?_
              rintro _ w6 ⟨rfl, hb6⟩
              refine hK.out _ _ trivial (fun _ => ?_)
              clear hK K
              (try simp only [Act.put, List.setIfInBounds_toArray, List.set_cons_zero, List.set_cons_succ])
              have B7 := Lib.hid (A7.out.below hb6 A7.out.lt)
              have B8 := Lib.hid (A8.out.below hb6 A8.out.lt)
              have BB := Lib.hid (AB.out.trans (hb6.mono (Nat.le_of_lt za)))
              have D7 := Lib.hid (B7.out.put k o ra rb m c u p' e' t' y')
              have D8 := Lib.hid (show Sg11 _ g8 30 k o ra rb m c u p e t y from (Sg11.put_other (w := w6) (g := g7) (b := g8) hgg k o ra rb m c u p' e' t' y').trans B8.out)
              have DB := Lib.hid (Sg11.put_below BB.out (Nat.le_of_lt hg7) k o ra rb m c u p' e' t' y')
              clear hb6 x0 x1 x2 x3 x4 x5 x6 x7 x8 x9 x10 y0 y1 y2 y3 y4 y5 y6 y7 y8 y9 y10
              obtain ⟨x0, x1, x2, x3, x4, x5, x6, x7, x8, x9, x10⟩ := B7.out.cells
              obtain ⟨f0, f1, f2, f3, f4, f5, f6, f7, f8, f9, f10⟩ := B7.out.loose
              refine wpAnyH_ready (rs := [6]) (by kernel_rfl) (by simp) ?_
              refine AllReadyH.cons (i := 6) rfl (fun K hK => ?_) (AllReadyH.nil)
              go_simp
              refine hK.out _ _ trivial (fun _ => ?_)
              clear hK K
              (try simp only [Act.put, List.setIfInBounds_toArray, List.set_cons_zero, List.set_cons_succ])
              clear x0 x1 x2 x3 x4 x5 x6 x7 x8 x9 x10 f0 f1 f2 f3 f4 f5 f6 f7 f8 f9 f10 B7 B8 BB A7 A8 AB
              generalize ((((((((((w6.setCell ⟨g7, 0, none⟩ (.int .i64 k)).setCell ⟨g7, 1, none⟩ (.int .i64 o)).setCell ⟨g7, 2, none⟩ (.int .i64 ra)).setCell ⟨g7, 3, none⟩ (.int .i64 rb)).setCell ⟨g7, 4, none⟩ (.int .i64 m)).setCell ⟨g7, 5, none⟩ (.int .i64 c)).setCell ⟨g7, 6, none⟩ (.int .i64 u)).setCell ⟨g7, 7, none⟩ (.int .i64 p')).setCell ⟨g7, 8, none⟩ (.int .i64 e')).setCell ⟨g7, 9, none⟩ (.int .i64 t')).setCell ⟨g7, 10, none⟩ (.int .i64 y') = w7 at D7 D8 DB ⊢
              obtain ⟨y0, y1, y2, y3, y4, y5, y6, y7, y8, y9, y10⟩ := D8.out.cells
              obtain ⟨e0, e1, e2, e3, e4, e5, e6, e7, e8, e9, e10⟩ := D8.out.loose
              refine wpAnyH_ready (rs := [7]) (by kernel_rfl) (by simp) ?_
              refine AllReadyH.cons (i := 7) rfl (fun K hK => ?_) (AllReadyH.nil)
              go_simp
              refine hK.out _ _ trivial (fun _ => ?_)
              clear hK K
              (try simp only [Act.put, List.setIfInBounds_toArray, List.set_cons_zero, List.set_cons_succ])
              refine wpAnyH_done (by kernel_rfl) ?_ _
              go_wp2
              go_roundw
              case rel => exact ⟨j + 1, p', e', t', y', by omega, by go_num, (Sg11.put_other (w := w7) (g := g8) (b := g7) (Ne.symm hgg) k o ra rb m c u p' e' t' y').trans D7.out, D8.out.put k o ra rb m c u p' e' t' y', Sg11.put_below DB.out (Nat.le_of_lt hg8) k o ra rb m c u p' e' t' y'⟩
              case measure => simp [intOf]; omega
            · go_simp
              refine hK.out _ _ trivial (fun _ => ?_)
              clear hK K
              (try simp only [Act.put, List.setIfInBounds_toArray, List.set_cons_zero, List.set_cons_succ])
              refine wpAnyH_ready (rs := [2]) (by kernel_rfl) (by simp) ?_
              refine AllReadyH.cons (i := 2) rfl (fun K hK => ?_) (AllReadyH.nil)
              go_simp
              go_at_call 10
              refine (HLX.out _).mono ?_
              rintro _ w5 ⟨rfl, hb5⟩
              refine hK.out _ _ trivial (fun _ => ?_)
              clear hK K
              (try simp only [Act.put, List.setIfInBounds_toArray, List.set_cons_zero, List.set_cons_succ])
              have A7 := Lib.hid (C7.out.drew.below hb5 C7.out.lt)
              have A8 := Lib.hid (C8.out.drew.below hb5 C8.out.lt)
              have AB := Lib.hid (CB.out.drew.trans (hb5.mono (Nat.le_of_lt zc)))
              have za : g < w5.heap.size := by have := hb5.size; simp at this; omega
              clear hb5 x0 x1 x2 x3 x4 x5 x6 x7 x8 x9 x10 y0 y1 y2 y3 y4 y5 y6 y7 y8 y9 y10
              obtain ⟨x0, x1, x2, x3, x4, x5, x6, x7, x8, x9, x10⟩ := A7.out.cells
              obtain ⟨y0, y1, y2, y3, y4, y5, y6, y7, y8, y9, y10⟩ := A8.out.cells
              refine wpAnyH_ready (rs := [5]) (by kernel_rfl) (by simp) ?_
              refine AllReadyH.cons (i := 5) rfl (fun K hK => ?_) (AllReadyH.nil)
              go_simp
              go_at_call 11
              refine (HWX.out _).mono ?_
              rintro _ w6 ⟨rfl, hb6⟩
              refine hK.out _ _ trivial (fun _ => ?_)
              clear hK K
              (try simp only [Act.put, List.setIfInBounds_toArray, List.set_cons_zero, List.set_cons_succ])
              have B7 := Lib.hid (A7.out.below hb6 A7.out.lt)
              have B8 := Lib.hid (A8.out.below hb6 A8.out.lt)
              have BB := Lib.hid (AB.out.trans (hb6.mono (Nat.le_of_lt za)))
              have D7 := Lib.hid (B7.out.put k o ra rb m c u p' e' t' y')
              have D8 := Lib.hid (show Sg11 _ g8 30 k o ra rb m c u p e t y from (Sg11.put_other (w := w6) (g := g7) (b := g8) hgg k o ra rb m c u p' e' t' y').trans B8.out)
              have DB := Lib.hid (Sg11.put_below BB.out (Nat.le_of_lt hg7) k o ra rb m c u p' e' t' y')
              clear hb6 x0 x1 x2 x3 x4 x5 x6 x7 x8 x9 x10 y0 y1 y2 y3 y4 y5 y6 y7 y8 y9 y10
              obtain ⟨x0, x1, x2, x3, x4, x5, x6, x7, x8, x9, x10⟩ := B7.out.cells
              obtain ⟨f0, f1, f2, f3, f4, f5, f6, f7, f8, f9, f10⟩ := B7.out.loose
              refine wpAnyH_ready (rs := [6]) (by kernel_rfl) (by simp) ?_
              refine AllReadyH.cons (i := 6) rfl (fun K hK => ?_) (AllReadyH.nil)
              go_simp
              refine hK.out _ _ trivial (fun _ => ?_)
              clear hK K
              (try simp only [Act.put, List.setIfInBounds_toArray, List.set_cons_zero, List.set_cons_succ])
              clear x0 x1 x2 x3 x4 x5 x6 x7 x8 x9 x10 f0 f1 f2 f3 f4 f5 f6 f7 f8 f9 f10 B7 B8 BB A7 A8 AB
              generalize ((((((((((w6.setCell ⟨g7, 0, none⟩ (.int .i64 k)).setCell ⟨g7, 1, none⟩ (.int .i64 o)).setCell ⟨g7, 2, none⟩ (.int .i64 ra)).setCell ⟨g7, 3, none⟩ (.int .i64 rb)).setCell ⟨g7, 4, none⟩ (.int .i64 m)).setCell ⟨g7, 5, none⟩ (.int .i64 c)).setCell ⟨g7, 6, none⟩ (.int .i64 u)).setCell ⟨g7, 7, none⟩ (.int .i64 p')).setCell ⟨g7, 8, none⟩ (.int .i64 e')).setCell ⟨g7, 9, none⟩ (.int .i64 t')).setCell ⟨g7, 10, none⟩ (.int .i64 y') = w7 at D7 D8 DB ⊢
              obtain ⟨y0, y1, y2, y3, y4, y5, y6, y7, y8, y9, y10⟩ := D8.out.cells
              obtain ⟨e0, e1, e2, e3, e4, e5, e6, e7, e8, e9, e10⟩ := D8.out.loose
              refine wpAnyH_ready (rs := [7]) (by kernel_rfl) (by simp) ?_
              refine AllReadyH.cons (i := 7) rfl (fun K hK => ?_) (AllReadyH.nil)
              go_simp
              refine hK.out _ _ trivial (fun _ => ?_)
              clear hK K
              (try simp only [Act.put, List.setIfInBounds_toArray, List.set_cons_zero, List.set_cons_succ])
              refine wpAnyH_done (by kernel_rfl) ?_ _
              go_wp2
              go_roundw
              case rel => exact ⟨j + 1, p', e', t', y', by omega, by go_num, (Sg11.put_other (w := w7) (g := g8) (b := g7) (Ne.symm hgg) k o ra rb m c u p' e' t' y').trans D7.out, D8.out.put k o ra rb m c u p' e' t' y', Sg11.put_below DB.out (Nat.le_of_lt hg8) k o ra rb m c u p' e' t' y'⟩
              case measure => simp [intOf]; omega
          · go_simp
            refine hK.out _ _ trivial (fun _ => ?_)
            clear hK K
            (try simp only [Act.put, List.setIfInBounds_toArray, List.set_cons_zero, List.set_cons_succ])
            refine wpAnyH_ready (rs := [0]) (by kernel_rfl) (by simp) ?_
            refine AllReadyH.cons (i := 0) rfl (fun K hK => ?_) (AllReadyH.nil)
            go_simp
            refine hK.out _ _ trivial (fun _ => ?_)
            clear hK K
            (try simp only [Act.put, List.setIfInBounds_toArray, List.set_cons_zero, List.set_cons_succ])
            refine wpAnyH_ready (rs := [2]) (by kernel_rfl) (by simp) ?_
            refine AllReadyH.cons (i := 2) rfl (fun K hK => ?_) (AllReadyH.nil)
            go_simp
            go_at_call 10
            refine (HLX.out _).mono ?_
            rintro _ w5 ⟨rfl, hb5⟩
            refine hK.out _ _ trivial (fun _ => ?_)
            clear hK K
            (try simp only [Act.put, List.setIfInBounds_toArray, List.set_cons_zero, List.set_cons_succ])
            have A7 := Lib.hid (C7.out.drew.below hb5 C7.out.lt)
            have A8 := Lib.hid (C8.out.drew.below hb5 C8.out.lt)
            have AB := Lib.hid (CB.out.drew.trans (hb5.mono (Nat.le_of_lt zc)))
            have za : g < w5.heap.size := by have := hb5.size; simp at this; omega
            clear hb5 x0 x1 x2 x3 x4 x5 x6 x7 x8 x9 x10 y0 y1 y2 y3 y4 y5 y6 y7 y8 y9 y10
            obtain ⟨x0, x1, x2, x3, x4, x5, x6, x7, x8, x9, x10⟩ := A7.out.cells
            obtain ⟨y0, y1, y2, y3, y4, y5, y6, y7, y8, y9, y10⟩ := A8.out.cells
            refine wpAnyH_ready (rs := [5]) (by kernel_rfl) (by simp) ?_
            refine AllReadyH.cons (i := 5) rfl (fun K hK => ?_) (AllReadyH.nil)
            go_simp
            go_at_call 11
            refine (HWX.out _).mono ?_
            rintro _ w6 ⟨rfl, hb6⟩
            refine hK.out _ _ trivial (fun _ => ?_)
            clear hK K
            (try simp only [Act.put, List.setIfInBounds_toArray, List.set_cons_zero, List.set_cons_succ])
            have B7 := Lib.hid (A7.out.below hb6 A7.out.lt)
            have B8 := Lib.hid (A8.out.below hb6 A8.out.lt)
            have BB := Lib.hid (AB.out.trans (hb6.mono (Nat.le_of_lt za)))
            have D7 := Lib.hid (B7.out.put k o ra rb m c u p' e' t' y')
            have D8 := Lib.hid (show Sg11 _ g8 30 k o ra rb m c u p e t y from (Sg11.put_other (w := w6) (g := g7) (b := g8) hgg k o ra rb m c u p' e' t' y').trans B8.out)
            have DB := Lib.hid (Sg11.put_below BB.out (Nat.le_of_lt hg7) k o ra rb m c u p' e' t' y')
            clear hb6 x0 x1 x2 x3 x4 x5 x6 x7 x8 x9 x10 y0 y1 y2 y3 y4 y5 y6 y7 y8 y9 y10
            obtain ⟨x0, x1, x2, x3, x4, x5, x6, x7, x8, x9, x10⟩ := B7.out.cells
            obtain ⟨f0, f1, f2, f3, f4, f5, f6, f7, f8, f9, f10⟩ := B7.out.loose
            refine wpAnyH_ready (rs := [6]) (by kernel_rfl) (by simp) ?_
            refine AllReadyH.cons (i := 6) rfl (fun K hK => ?_) (AllReadyH.nil)
            go_simp
            refine hK.out _ _ trivial (fun _ => ?_)
            clear hK K
            (try simp only [Act.put, List.setIfInBounds_toArray, List.set_cons_zero, List.set_cons_succ])
            clear x0 x1 x2 x3 x4 x5 x6 x7 x8 x9 x10 f0 f1 f2 f3 f4 f5 f6 f7 f8 f9 f10 B7 B8 BB A7 A8 AB
            generalize ((((((((((w6.setCell ⟨g7, 0, none⟩ (.int .i64 k)).setCell ⟨g7, 1, none⟩ (.int .i64 o)).setCell ⟨g7, 2, none⟩ (.int .i64 ra)).setCell ⟨g7, 3, none⟩ (.int .i64 rb)).setCell ⟨g7, 4, none⟩ (.int .i64 m)).setCell ⟨g7, 5, none⟩ (.int .i64 c)).setCell ⟨g7, 6, none⟩ (.int .i64 u)).setCell ⟨g7, 7, none⟩ (.int .i64 p')).setCell ⟨g7, 8, none⟩ (.int .i64 e')).setCell ⟨g7, 9, none⟩ (.int .i64 t')).setCell ⟨g7, 10, none⟩ (.int .i64 y') = w7 at D7 D8 DB ⊢
            obtain ⟨y0, y1, y2, y3, y4, y5, y6, y7, y8, y9, y10⟩ := D8.out.cells
            obtain ⟨e0, e1, e2, e3, e4, e5, e6, e7, e8, e9, e10⟩ := D8.out.loose
            refine wpAnyH_ready (rs := [7]) (by kernel_rfl) (by simp) ?_
            refine AllReadyH.cons (i := 7) rfl (fun K hK => ?_) (AllReadyH.nil)
            go_simp
            refine hK.out _ _ trivial (fun _ => ?_)
            clear hK K
            (try simp only [Act.put, List.setIfInBounds_toArray, List.set_cons_zero, List.set_cons_succ])
            refine wpAnyH_done (by kernel_rfl) ?_ _
            go_wp2
            go_roundw
            case rel => exact ⟨j + 1, p', e', t', y', by omega, by go_num, (Sg11.put_other (w := w7) (g := g8) (b := g7) (Ne.symm hgg) k o ra rb m c u p' e' t' y').trans D7.out, D8.out.put k o ra rb m c u p' e' t' y', Sg11.put_below DB.out (Nat.le_of_lt hg8) k o ra rb m c u p' e' t' y'⟩
            case measure => simp [intOf]; omega
      · obtain rfl : j = n1 := by omega
        obtain ⟨x0, x1, x2, x3, x4, x5, x6, x7, x8, x9, x10⟩ := H7r.out.cells
        obtain ⟨y0, y1, y2, y3, y4, y5, y6, y7, y8, y9, y10⟩ := H8r.out.cells
        go_wp2
        go_ret
        exact ⟨rfl, by rw [hg]; exact HBr.out⟩
end Go.Proofs.Ytdcghnoioecglaa


