/-
  The statement EntryHouse by its walk.
-/
import Derived.Test.YtpgjifbeckmieaaEntAwake
import Derived.Test.YtpgjifbeckmieaaBookAny
import Derived.Test.YtpgjifbeckmieaaArgNat
import Derived.Test.YtpgjifbeckmieaaAfter
namespace Go.Proofs.Ytpgjifbeckmieaa
open Go Go.RowKit
set_option linter.unusedVariables false

theorem exch_anyB (a : Int) (w : World) (h : 0 ≤ a ∧ a < 3) :
    Calls Try.prog 13 #[.int .i64 1, .int .i64 a] w fun e w' => e = .returned (.int .i64 (exch a)) ∧ Below w.heap.size w w' :=
  (exch_any a w h).mono fun _ _ ⟨h1, h2⟩ => ⟨h1, h2 ▸ Below.refl _ _⟩

set_option maxRecDepth 100000 in
set_option maxHeartbeats 8000000 in
theorem entryHouse_walk (w : World) (v : Value) (hv : BookAt w v) (F : Int) (wF : (Lit.int .u8 F).wf = true) (T : Int) (wT : (Lit.int .u8 T).wf = true) (X : Int) (wX : (Lit.int .u16 X).wf = true) :
    Calls Try.prog 6 #[v, .int .u8 F, .int .u8 T, .int .u16 X] w fun e w' => e = .returned (.bool true) ∧ Below w.heap.size w w' := by
  obtain ⟨CA, HA, LA, cl, cc, hl, hc, ll, lc, cs, hs, ls, rfl, _⟩ := hv.form
  obtain ⟨F, rfl, hF⟩ := u8_nat wF
  obtain ⟨T, rfl, hT⟩ := u8_nat wT
  obtain ⟨X, rfl, hX⟩ := u16_nat wX
  have HV := Lib.hid hv
  clear hv wF wT wX
  go_enter Try.func6, Try.ntmps6
  go_wp2_with fail
  have hb0 := (Below.refl w.heap.size w).alloc (Nat.le_refl _) (.cells #[.slice CA cl cc, .slice HA hl hc, .slice LA ll lc] 25)
  refine (awake_ok _).mono ?_
  rintro e w1 ⟨rfl, hb1⟩
  have k0 : w1.cell? ⟨w.heap.size, 0, none⟩ = some (.slice CA cl cc) := by rw [hb1.cell (by simp)]; simp
  have k1 : w1.cell? ⟨w.heap.size, 1, none⟩ = some (.slice HA hl hc) := by rw [hb1.cell (by simp)]; simp
  have k2 : w1.cell? ⟨w.heap.size, 2, none⟩ = some (.slice LA ll lc) := by rw [hb1.cell (by simp)]; simp
  have HB1 := Lib.hid (hb0.trans (hb1.mono (by simp)))
  clear hb0 hb1
  go_wp2_with fail
  refine (book_any HV.out HB1.out).mono ?_
  rintro e w2 ⟨v2, zs, j, rfl, ho, hj, hbk, hb2⟩
  have hzl := hbk.len
  obtain ⟨n, hn⟩ : ∃ n, zs.length = n := ⟨_, rfl⟩
  obtain ⟨g, cap, hv2, hg1, hg2, hnc, hcm⟩ := ho.open_ (by omega)
  rw [hn] at hv2
  subst hv2
  have hn17 : n ≤ 17 := by omega
  have hn9 : 9 ≤ n := by omega
  obtain ⟨f, hf⟩ : ∃ f : Nat, F % n = f := ⟨_, rfl⟩
  obtain ⟨t, ht⟩ : ∃ t : Nat, T % n = t := ⟨_, rfl⟩
  have hfn : f < n := by rw [← hf]; exact Nat.mod_lt _ (by omega)
  have htn : t < n := by rw [← ht]; exact Nat.mod_lt _ (by omega)
  have hf1 : (F : Int) % (n : Int) = (f : Int) := by rw [← hf]; rfl
  have ht1 : (T : Int) % (n : Int) = (t : Int) := by rw [← ht]; rfl
  have hf2 : (F : Int).tmod (n : Int) = (f : Int) := by rw [Int.tmod_eq_emod_of_nonneg (by omega)]; exact hf1
  have ht2 : (T : Int).tmod (n : Int) = (t : Int) := by rw [Int.tmod_eq_emod_of_nonneg (by omega)]; exact ht1
  have HCU := Lib.hid (Curs.of_book hbk)
  obtain ⟨⟨fc, fb, fl⟩, hfa⟩ : ∃ a, zs[f]? = some a := ⟨_, List.getElem?_eq_getElem (by omega)⟩
  obtain ⟨⟨tc, tb, tl⟩, hta⟩ : ∃ a, zs[t]? = some a := ⟨_, List.getElem?_eq_getElem (by omega)⟩
  have hcf := curOf_at hfa
  have hct := curOf_at hta
  have hfc := HCU.out _ _ hfa
  have htc := HCU.out _ _ hta
  dsimp only at hcf hct hfc htc
  obtain ⟨x0, x1, x2⟩ := ho.at_ hfa
  obtain ⟨y0, y1, y2⟩ := ho.at_ hta
  dsimp only at x0 y0
  have X0 := Lib.hid x0
  have Y0 := Lib.hid y0
  have HCF := Lib.hid hcf
  have HCT := Lib.hid hct
  have HM := Lib.hid (fun W (hbw : Below w2.heap.size w2 W) => move_any (some ⟨g, 0, none⟩) n cap zs (f : Int) (t : Int) (X : Int) W hn (ho.below hbw).rd (Curs.of_book hbk) (by omega))
  have HB2 := Lib.hid (HB1.out.trans (hb2.mono HB1.out.size))
  have HN := Lib.hid hn
  have hn0 : ¬ (n : Int) = 0 := by omega
  clear ho hbk hb2 hn hzl k0 k1 k2 hj hnc hcm hg1 hf ht hfa hta x1 x2 y1 y2 hcf hct x0 y0
  have H2 := Lib.hid (Below.refl w2.heap.size w2)
  go_wp2
  go_quiet (fail)
  go_wp2_with fail
  refine (HM.out _ (below_drewN H2.out _)).mono ?_
  rintro e w3 ⟨v3, rfl, ho3, hb3⟩
  obtain ⟨E, hE⟩ : ∃ E, moveE zs (f : Int) (t : Int) (X : Int) = E := ⟨_, rfl⟩
  have x0 : w3.cell? ⟨g, f * 3, none⟩ = some (.int .i64 fc) := by rw [hb3.cell (p := ⟨g, f * 3, none⟩) (by simpa using hg2)]; exact X0.out
  have y0 : w3.cell? ⟨g, t * 3, none⟩ = some (.int .i64 tc) := by rw [hb3.cell (p := ⟨g, t * 3, none⟩) (by simpa using hg2)]; exact Y0.out
  have HB3 := Lib.hid (HB2.out.trans ((below_drewN (Below.refl w2.heap.size w2) _).trans (hb3.mono (by simp)) |>.mono HB2.out.size))
  by_cases hE0 : E = 0
  · rw [hE, hE0, errV, if_pos rfl]
    unfold moveL at ho3
    rw [hE, hE0, if_pos rfl, HCF.out, HCT.out] at ho3
    have hok := moveE_ok (hE.trans hE0)
    rw [HCF.out, HCT.out] at hok
    by_cases hab : fc = tc
    · rw [moveOk, if_pos hab] at ho3
      obtain ⟨g3, c3, hv3, hg31, hg32, hnc3, hcm3⟩ := ho3.open_ (by simp)
      rw [show ([⟨(f : Int), -(X : Int)⟩, ⟨(t : Int), (X : Int)⟩] : List En).length = 2 from rfl] at hv3
      subst hv3
      obtain ⟨p00, p01⟩ := ho3.at_ (j := 0) (a := ⟨(f : Int), -(X : Int)⟩) rfl
      obtain ⟨p10, p11⟩ := ho3.at_ (j := 1) (a := ⟨(t : Int), (X : Int)⟩) rfl
      subst hab
      clear ho3 hok hE hE0 hb3 HM
      go_wp2
      go_quiet (fail)
      go_wp2
      go_ret
      exact ⟨rfl, below_drewN HB3.out _⟩
    · have fab := eqF hab
      rw [moveOk, if_neg hab] at ho3
      obtain ⟨c, hcv⟩ : ∃ c, conv fc tc (X : Int) = c := ⟨_, rfl⟩
      have hc0 := conv_small hfc htc (show (0 : Int) ≤ (X : Int) by omega) (by omega)
      have hcne := (hok.2.2.2.2.2 hab).2
      rw [hcv] at ho3 hc0 hcne
      obtain ⟨g3, c3, hv3, hg31, hg32, hnc3, hcm3⟩ := ho3.open_ (by simp)
      rw [show ([⟨(f : Int), -(X : Int)⟩, ⟨exch fc, (X : Int)⟩, ⟨exch tc, -c⟩, ⟨(t : Int), c⟩] : List En).length = 4 from rfl] at hv3
      subst hv3
      obtain ⟨p00, p01⟩ := ho3.at_ (j := 0) (a := ⟨(f : Int), -(X : Int)⟩) rfl
      obtain ⟨p10, p11⟩ := ho3.at_ (j := 1) (a := ⟨exch fc, (X : Int)⟩) rfl
      obtain ⟨p20, p21⟩ := ho3.at_ (j := 2) (a := ⟨exch tc, -c⟩) rfl
      obtain ⟨p30, p31⟩ := ho3.at_ (j := 3) (a := ⟨(t : Int), c⟩) rfl
      obtain ⟨c0, c1⟩ := hc0
      have hc1 : 1 ≤ c := by omega
      have hcd : decide (0 < c) = true := decide_eq_true (by omega)
      have HX1 := Lib.hid (fun W => exch_anyB fc W hfc)
      have HX2 := Lib.hid (fun W => exch_anyB tc W htc)
      obtain ⟨fc0, fc3⟩ := hfc
      obtain ⟨tc0, tc3⟩ := htc
      clear ho3 hok hE hE0 hb3 HM hcne hab
      go_wp2
      go_quiet (fail)
      go_wp2
      obtain ⟨w4, hw4⟩ : ∃ W, W = w3 := ⟨_, rfl⟩
      have P10 := Lib.hid p10
      have P11 := Lib.hid p11
      have P20 := Lib.hid p20
      have P21 := Lib.hid p21
      have P31 := Lib.hid p31
      have XX0 := Lib.hid x0
      have YY0 := Lib.hid y0
      have hk : ∀ (N : Nat) (p : After (World.drewN w3 N)) (a : Addr) (u : Value), w3.cell? a = some u → p.world.cell? a = some u := fun N p a u h => by
        rw [p.below.cell (show a.block < (World.drewN w3 N).heap.size from World.block_lt_of_cell? w3 a h)]; exact h
      have q10 := fun N (p : After (World.drewN w3 N)) => hk N p _ _ P10.out
      have q11 := fun N (p : After (World.drewN w3 N)) => hk N p _ _ P11.out
      have q20 := fun N (p : After (World.drewN w3 N)) => hk N p _ _ P20.out
      have q21 := fun N (p : After (World.drewN w3 N)) => hk N p _ _ P21.out
      have q31 := fun N (p : After (World.drewN w3 N)) => hk N p _ _ P31.out
      have qx := fun N (p : After (World.drewN w3 N)) => hk N p _ _ XX0.out
      have qy := fun N (p : After (World.drewN w3 N)) => hk N p _ _ YY0.out
      clear hk x0 y0 p10 p11 p20 p21 p30 p31 p00 p01 hw4 w4
      refine wp_region_after (by kernel_rfl) (by kernel_rfl) ?_
      repeat (go_big_quiet_step (fail))
      go_big_quiet_step (first | (go_at_call 13; exact after_call _ (HX1.out _)))
      repeat (go_big_quiet_step (fail))
      go_big_quiet_step (first | (go_at_call 13; exact after_call _ (HX2.out _)))
      repeat (go_big_quiet_step (fail))
      refine wpQuiet_nil ?_
      intro _ hw'
      obtain ⟨p, rfl⟩ := hw'
      have HB6 := Lib.hid ((below_drewN HB3.out _).trans (p.below.mono (by have := HB3.out.size; simp; omega)))
      clear q10 q11 q20 q21 q31 qx qy
      go_wp2
      go_ret
      exact ⟨rfl, HB6.out⟩
  · rw [hE, errV, if_neg hE0]
    unfold moveL at ho3
    rw [hE, if_neg hE0] at ho3
    clear HM hE
    go_wp2
    go_quiet (fail)
    go_wp2
    go_ret
    exact ⟨rfl, below_drewN HB3.out _⟩
end Go.Proofs.Ytpgjifbeckmieaa
