/-
  The statement ChartClone by its walk.
-/
import Derived.Test.YtpcpocgagfpbhaaChartAwake
import Derived.Test.YtpcpocgagfpbhaaChartArg
import Derived.Test.YtpcpocgagfpbhaaChartClone
import Derived.Test.YtpcpocgagfpbhaaArgNat
import Derived.Test.YtpcpocgagfpbhaaAfter
import Derived.RegionTactic
import Derived.BigRegion
namespace Go.Proofs.Ytpcpocgagfpbhaa
open Go Go.RowKit
set_option linter.unusedVariables false

theorem wrap_next {b : Int} (h : isInt b) : ¬ wrap64 (b + 1) = b := by
  unfold isInt at h
  unfold wrap64
  omega

set_option maxRecDepth 100000 in
set_option maxHeartbeats 4000000 in
theorem chartClone_walk (w : World) (A : Option Addr) (len cap0 : Nat) (hA : IsAccs w A len cap0) (hr0 : cap0 * 24 ≤ 140737488351232) (z : Ac) (hz : z.fits) (at_ : Int) (wat : (Lit.int .u8 at_).wf = true) :
    Calls Try.prog 7 #[.slice A len cap0, .agg #[.int .i64 z.cur, .int .i64 z.bal, .int .i64 z.held], .int .u8 at_] w fun e w' => e = .returned (.bool true) ∧ Below w.heap.size w w' := by
  obtain ⟨raw, hrl, hraw, hfit, hlc, hcm0, hnil⟩ := accs_list hA
  obtain ⟨m, rfl, hm⟩ := u8_nat wat
  have hlen : len ≤ 5864062014805 := by omega
  have HF := Lib.hid (fun W => free_any z W)
  obtain ⟨zc, zb, zl⟩ := z
  dsimp only at HF ⊢
  obtain ⟨fr, hfr⟩ : ∃ f : Int, wrap64 (zb - zl) = f := ⟨_, rfl⟩
  rw [hfr] at HF
  have HRL := Lib.hid hrl
  have HRAW := Lib.hid hraw
  have HFIT := Lib.hid hfit
  have HNIL := Lib.hid hnil
  clear wat hA hz hrl hraw hlc hcm0 hr0 hfit hnil
  go_enter Try.func7, Try.ntmps7
  go_wp2_with fail
  have hb0 := (Below.refl w.heap.size w).alloc (Nat.le_refl _) (.cells #[.int .i64 zc, .int .i64 zb, .int .i64 zl] 27)
  refine (awake_ok _).mono ?_
  rintro e w1 ⟨rfl, hb1⟩
  have t0 : w1.cell? ⟨w.heap.size, 0, none⟩ = some (.int .i64 zc) := by rw [hb1.cell (by simp)]; simp
  have t1 : w1.cell? ⟨w.heap.size, 1, none⟩ = some (.int .i64 zb) := by rw [hb1.cell (by simp)]; simp
  have t2 : w1.cell? ⟨w.heap.size, 2, none⟩ = some (.int .i64 zl) := by rw [hb1.cell (by simp)]; simp
  have hz1 : w.heap.size < w1.heap.size := by have := hb1.size; simp at this; omega
  have HB1 := Lib.hid (hb0.trans (hb1.mono (by simp)))
  clear hb0 hb1
  go_wp2_with fail
  refine (clone_acc A len cap0 raw w1 HRL.out (HRAW.out.below HB1.out) hlen HNIL.out).mono ?_
  rintro e w2 ⟨rfl, ho, hb2⟩
  have T0 := Lib.hid ((hb2.cell (p := ⟨w.heap.size, 0, none⟩) (by simp; omega)).trans t0)
  have T1 := Lib.hid ((hb2.cell (p := ⟨w.heap.size, 1, none⟩) (by simp; omega)).trans t1)
  have T2 := Lib.hid ((hb2.cell (p := ⟨w.heap.size, 2, none⟩) (by simp; omega)).trans t2)
  have HB2 := Lib.hid (HB1.out.trans (hb2.mono HB1.out.size))
  have hz2 := hb2.size
  clear t0 t1 t2 hb2
  obtain ⟨g, hg⟩ : ∃ g, w1.heap.size = g := ⟨_, rfl⟩
  have hg2 : g < w2.heap.size := by
    rw [← hg]
    rcases ho.2 with ⟨h0, _⟩ | ⟨g', _, _, h0, _, hh, _⟩
    · cases h0
    · injection h0 with e1 e2 e3
      injection e1 with e1
      injection e1 with e1
      rw [e1]
      exact (Array.getElem?_eq_some_iff.1 hh).1
  rw [hg] at ho hz1 hz2 ⊢
  clear hg
  have HO := Lib.hid ho
  clear ho
  have d0 : ∀ p : After w2, p.world.cell? ⟨w.heap.size, 0, none⟩ = some (.int .i64 zc) := fun p => (p.below.cell (p := ⟨w.heap.size, 0, none⟩) (by simp; omega)).trans T0.out
  have d1 : ∀ p : After w2, p.world.cell? ⟨w.heap.size, 1, none⟩ = some (.int .i64 zb) := fun p => (p.below.cell (p := ⟨w.heap.size, 1, none⟩) (by simp; omega)).trans T1.out
  have d2 : ∀ p : After w2, p.world.cell? ⟨w.heap.size, 2, none⟩ = some (.int .i64 zl) := fun p => (p.below.cell (p := ⟨w.heap.size, 2, none⟩) (by simp; omega)).trans T2.out
  have HS := Lib.hid (fun p : After w2 => same_any (some ⟨g, 0, none⟩) A len len len cap0 raw raw p.world HRL.out HRL.out (HO.out.below p.below).rd (HRAW.out.below (HB2.out.trans (p.below.mono HB2.out.size))) (by omega) (by omega))
  rw [show decide (raw = raw) = true from decide_eq_true rfl] at HS
  go_wp2
  refine wp_region_after (by kernel_rfl) (by kernel_rfl) ?_
  repeat (go_big_quiet_step (first | (go_at_call 19; exact after_call _ (HS.out _)) | (go_at_call 20; exact after_call _ (HF.out _))))
  refine wpQuiet_nil ?_
  intro _ hw'
  obtain ⟨p, rfl⟩ := hw'
  have HB3 := Lib.hid p.below
  have hz3 := p.below.size
  clear d0 d1 d2
  generalize p.world = w3 at *
  by_cases h0 : len = 0
  · subst h0
    go_wp2
    go_ret
    exact ⟨rfl, HB2.out.trans (HB3.out.mono HB2.out.size)⟩
  · have h0' : ((len : Int) == 0) = false := by simp; omega
    have hg3 : g < w3.heap.size := by omega
    have hg4 : ¬ g = w3.heap.size := by omega
    obtain ⟨i, hi⟩ : ∃ i : Nat, (m : Int) % (len : Int) = (i : Int) := ⟨m % len, by omega⟩
    have hi' : Int.tmod (m : Int) (len : Int) = (i : Int) := by rw [Int.tmod_eq_emod_of_nonneg (by omega)]; exact hi
    have hin : i < len := by
      have h1 : m % len < len := Nat.mod_lt _ (by omega)
      have h2 : ((m % len : Nat) : Int) = (i : Int) := by rw [← hi]; omega
      omega
    obtain ⟨a, ha⟩ : ∃ a, raw[i]? = some a := ⟨_, List.getElem?_eq_getElem (by rw [HRL.out]; exact hin)⟩
    have hab := (HFIT.out i a ha).2.1
    have ho3 := HO.out.below HB3.out
    have hbw : Below w.heap.size w w3 := HB2.out.trans (HB3.out.mono HB2.out.size)
    obtain ⟨ax, rfl, hax⟩ := HRAW.out.at_ ha
    have hax3 := hax.keep (w' := w3) fun p hp => hbw.cell hp
    have hxb : ax.block < w.heap.size := by have := World.block_lt_of_cell? w _ hax.c0; rw [add_block] at this; exact this
    obtain ⟨c0, c1, c2⟩ := hax3
    obtain ⟨e0, e1, e2⟩ := ho3.at_ ha
    have f1 := ho3.unfrozen HRL.out.symm (i * 3 + 1)
    have hset := (ho3.set HRL.out.symm ha (wrap64 (a.bal + 1))).2.1
    have hnext := wrap_next hab
    obtain ⟨ac, ab, al⟩ := a
    dsimp only at c0 c1 c2 e0 e1 e2 hset hnext
    obtain ⟨nb, hnb⟩ : ∃ nb, wrap64 (ab + 1) = nb := ⟨_, rfl⟩
    rw [hnb] at hset hnext
    obtain ⟨g0, g1, g2⟩ := hset.at_ (List.getElem?_set_self (by rw [HRL.out]; exact hin))
    dsimp only at g0 g1 g2
    have n1 := eqF hnext
    have hgx : ∀ j, (w3.setCell ⟨g, i * 3 + 1, none⟩ (.int .i64 nb)).cell? (ax.add j) = w3.cell? (ax.add j) := fun j => World.cell?_of_block (w := w3) (Below.heap_setCell _ _ _ _ (by rw [add_block]; simp; omega))
    have q0 := (hgx (i * 3)).trans c0
    have q1 := (hgx (i * 3 + 1)).trans c1
    have q2 := (hgx (i * 3 + 2)).trans c2
    have HW4 := Lib.hid (hbw.setCell (p := ⟨g, i * 3 + 1, none⟩) (by simp; omega) (.int .i64 nb))
    rw [add_next _ (i * 3) 1 (by omega)] at c1 q1
    rw [add_next _ (i * 3) 2 (by omega)] at c2 q2
    have hz4 : (w3.setCell ⟨g, i * 3 + 1, none⟩ (.int .i64 nb)).heap.size = w3.heap.size := by simp
    have hl := fun (W : World) (o : Obj) (p : Addr) (hp : p.block < W.heap.size) => World.cell?_alloc_lt W o p hp
    have Q0 := Lib.hid ((hl _ (.cells #[.int .i64 ac, .int .i64 ab, .int .i64 al] 27) _ (World.block_lt_of_cell? _ _ q0)).trans q0)
    have Q1 := Lib.hid ((hl _ (.cells #[.int .i64 ac, .int .i64 ab, .int .i64 al] 27) _ (World.block_lt_of_cell? _ _ q1)).trans q1)
    have Q2 := Lib.hid ((hl _ (.cells #[.int .i64 ac, .int .i64 ab, .int .i64 al] 27) _ (World.block_lt_of_cell? _ _ q2)).trans q2)
    have G0 := Lib.hid ((hl _ (.cells #[.int .i64 ac, .int .i64 ab, .int .i64 al] 27) _ (World.block_lt_of_cell? _ _ g0)).trans g0)
    have G1 := Lib.hid ((hl _ (.cells #[.int .i64 ac, .int .i64 ab, .int .i64 al] 27) _ (World.block_lt_of_cell? _ _ g1)).trans g1)
    have G2 := Lib.hid ((hl _ (.cells #[.int .i64 ac, .int .i64 ab, .int .i64 al] 27) _ (World.block_lt_of_cell? _ _ g2)).trans g2)
    have hb5 : ∀ j (u : Value), (#[.int .i64 ac, .int .i64 ab, .int .i64 al] : Array Value)[j]? = some u → ((w3.setCell ⟨g, i * 3 + 1, none⟩ (.int .i64 nb)).alloc (.cells #[.int .i64 ac, .int .i64 ab, .int .i64 al] 27)).cell? ⟨w3.heap.size, j, none⟩ = some u := fun j u hu => by
      have := cell_of_row ((w3.setCell ⟨g, i * 3 + 1, none⟩ (.int .i64 nb)).alloc (.cells #[.int .i64 ac, .int .i64 ab, .int .i64 al] 27)) w3.heap.size j _ _ (0, 0) (by rw [← hz4]; exact heap_alloc_new _ _)
      rw [this]; exact hu
    have W0 := Lib.hid (hb5 0 _ rfl)
    have W1 := Lib.hid (hb5 1 _ rfl)
    have W2 := Lib.hid (hb5 2 _ rfl)
    have HW5 := Lib.hid (HW4.out.alloc (by rw [hz4]; omega) (.cells #[.int .i64 ac, .int .i64 ab, .int .i64 al] 27))
    have HI := Lib.hid ha
    clear ha hab ho3 hbw hax hset hnext g0 g1 g2 q0 q1 q2 hgx hl hb5 hz4
    go_wp2
    generalize ((w3.setCell ⟨g, i * 3 + 1, none⟩ (.int .i64 nb)).alloc (.cells #[.int .i64 ac, .int .i64 ab, .int .i64 al] 27)) = w5 at *
    have q0 := Q0.out
    have q1 := Q1.out
    have q2 := Q2.out
    have g0 := G0.out
    have g1 := G1.out
    have g2 := G2.out
    have v0 := W0.out
    have v1 := W1.out
    have v2 := W2.out
    go_quiet (fail)
    go_wp2
    go_ret
    exact ⟨rfl, below_drewN HW5.out _⟩
end Go.Proofs.Ytpcpocgagfpbhaa
