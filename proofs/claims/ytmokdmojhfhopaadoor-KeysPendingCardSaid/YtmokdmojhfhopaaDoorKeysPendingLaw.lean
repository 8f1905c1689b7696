/-
  The statement KeysPending by its walk.
-/
import Derived.Test.YtmokdmojhfhopaaDoorKeyWords
import Derived.Test.YtmokdmojhfhopaaDoorKeyOpen
import Derived.Test.YtmokdmojhfhopaaDoorRebase
import Derived.Test.YtmokdmojhfhopaaDoorAfter
import Derived.Deep.QuietTactic
namespace Go.Proofs.YtmokdmojhfhopaaDoor
open Go Go.RowKit
set_option linter.unusedVariables false

theorem getD_last (xs : List Int) (y : Int) : (xs ++ [y]).getD xs.length 0 = y := by simp [List.getD]

set_option maxRecDepth 100000 in
set_option maxHeartbeats 4000000 in
theorem keysPending_walk (w : World) (A : Option Addr) (n cap : Nat) (hi : IsRecs known Kn.fits w A n cap) (r : Rq) (hrf : r.fits) (hh : HasErr w) :
    Calls Tryd.prog 6 #[.slice A n cap, r.val] w fun e w' => e = .returned (.bool true) ∧ Below w.heap.size w w' := by
  obtain ⟨ks, hl, hr, _, hnc, hcm, hnil⟩ := recs_list hi
  have hn : n ≤ 9223372036854775807 := by unfold maxLen at hcm; omega
  have HL := Lib.hid hl
  have HP := Lib.hid (fun W (h : RdS known W A ks) => kput_any A n cap ks r W hl h hn hnil)
  have HF := Lib.hid (fun W (h : RdS known W A ks) => find_any A n cap ks r.key W hl h hn)
  have HZ := Lib.hid (Rq7.new w 33 r.key r.op r.a r.b r.amt r.legs r.til)
  have HB0 := Lib.hid ((Below.refl w.heap.size w).alloc (Nat.le_refl _) (.cells #[.int .i64 r.key, .int .i64 r.op, .int .i64 r.a, .int .i64 r.b, .int .i64 r.amt, .int .i64 r.legs, .int .i64 r.til] 33))
  have HR := Lib.hid hr
  have HH := Lib.hid hh
  clear hi hl hr hh hrf hcm hnil
  by_cases hE : putE ks r = 0
  · obtain ⟨hf, h256, hL⟩ := putE_zero hE
    rw [HL.out] at h256
    have HK : Hid (∀ W B c, RdS known W B (ks ++ [⟨r, 0, 0, false⟩]) → Calls Tryd.prog 9 #[.slice B (n + 1) c, r.val] W (AskTold W (10, 0, true))) := Lib.hid (fun W B c hr => by
      have h := kask_any B (n + 1) c _ r W (by simp [HL.out]) hr (by omega)
      rw [put_ask hf] at h
      exact h)
    obtain ⟨os, hos⟩ : ∃ os, openL ks = os := ⟨_, rfl⟩
    have hoK : openL (ks ++ [⟨r, 0, 0, false⟩]) = os ++ [r.key] := by rw [openL_snoc, hos]; rfl
    obtain ⟨q, hq⟩ : ∃ q, os.length = q := ⟨_, rfl⟩
    obtain ⟨m, hm⟩ : ∃ m, m = q + 1 := ⟨_, rfl⟩
    have hqn : q ≤ n := by rw [← hq, ← hos, ← HL.out]; exact openL_len _
    have HO : Hid (∀ W B c, RdS known W B (ks ++ [⟨r, 0, 0, false⟩]) → Calls Tryd.prog 15 #[.slice B (n + 1) c] W fun e w' => ∃ v, e = .returned v ∧ Own 3 .i64 w' W.heap.size v m (os ++ [r.key]) ∧ Below W.heap.size W w') := Lib.hid (fun W B c hr => by
      have h := kopen_any B (n + 1) c _ W (by simp [HL.out]) hr (by omega)
      rw [hoK, List.length_append, hq, show q + ([r.key] : List Int).length = m from hm.symm] at h
      exact h)
    have HO2 : Hid (∀ W, RdS known W A ks → Calls Tryd.prog 15 #[.slice A n cap] W fun e w' => ∃ v, e = .returned v ∧ Own 3 .i64 w' W.heap.size v q os ∧ Below W.heap.size W w') := Lib.hid (fun W hr => by
      have h := kopen_any A n cap ks W HL.out hr (by omega)
      rw [hos, hq] at h
      exact h)
    have HF2 : Hid (∀ W B c, RdS known W B (ks ++ [⟨r, 0, 0, false⟩]) → Calls Tryd.prog 10 #[.slice B (n + 1) c, .int .i64 r.key] W fun e w' => e = .returned (.int .i64 (n : Int)) ∧ Below W.heap.size W w') := Lib.hid (fun W B c hr => by
      have h := find_any B (n + 1) c _ r.key W (by simp [HL.out]) hr (by omega)
      rw [put_find hf, HL.out] at h
      exact h)
    have hlast : (os ++ [r.key]).getD q 0 = r.key := by rw [← hq]; exact getD_last _ _
    have HLAST := Lib.hid hlast
    have e1 : IntKind.i64.wrap ((q : Int) + 1) = (m : Int) := by rw [IntKind.wrap_i64]; omega
    have e2 : IntKind.i64.wrap ((m : Int) - 1) = (q : Int) := by rw [IntKind.wrap_i64]; omega
    have hqm : q < m := by omega
    rw [hE, hL] at HP
    have HQ := Lib.hid hqn
    have hmn : m ≤ n + 1 := by omega
    clear hE hf hL hos hoK hq hm hlast hqn HF
    obtain ⟨key, op, ra, rb, amt, legs, til⟩ := r
    unfold Rq.val at HP HK ⊢
    dsimp only at HZ HB0 HP HK HO HF2 HLAST ⊢
    go_enter Tryd.func6, Tryd.ntmps6
    go_wp2_with fail
    refine (kawake_ok _).mono ?_
    rintro _ w1 ⟨rfl, hb1⟩
    have HR1 := Lib.hid ((HR.out.alloc _).below hb1)
    have HZ1 := Lib.hid (HZ.out.below hb1 (by simp))
    have HB1 := Lib.hid (HB0.out.trans (hb1.mono (by simp)))
    have hlt1 : w.heap.size < w1.heap.size := by have := hb1.size; simp at this; omega
    obtain ⟨z0, z1, z2, z3, z4, z5, z6⟩ := HZ1.out.cells
    clear hb1 HZ HB0 HR
    go_wp2_with fail
    refine (HP.out _ HR1.out).mono ?_
    rintro _ w2 ⟨v2, rfl, ho2, hb2⟩
    rw [show errV 0 = .nilIface from rfl]
    obtain ⟨A2, c2, rfl, hr2, hc2, hm2, hn2⟩ := ho2.form
    rw [show (ks ++ [(⟨⟨key, op, ra, rb, amt, legs, til⟩, 0, 0, false⟩ : Kn)]).length = n + 1 by simp [HL.out]]
    have hs2 := hb2.size
    have hlt2 : w.heap.size < w2.heap.size := by omega
    have HKS2 := Lib.hid (HR1.out.below hb2)
    have HA2 := Lib.hid hr2
    have HZ2 := Lib.hid (HZ1.out.below hb2 hlt1)
    have HB2 := Lib.hid (HB1.out.trans (hb2.mono HB1.out.size))
    clear ho2 hb2 hr2 hn2 hm2 hc2 z0 z1 z2 z3 z4 z5 z6 HP HR1 HZ1 HB1 hs2 hlt1
    obtain ⟨z0, z1, z2, z3, z4, z5, z6⟩ := HZ2.out.cells
    go_wp2_with fail
    refine (HK.out _ _ _ HA2.out).mono ?_
    rintro _ w3 ⟨rfl, hb3⟩
    dsimp only
    have hs3 := hb3.size
    have hlt3 : w.heap.size < w3.heap.size := by omega
    have HKS3 := Lib.hid (HKS2.out.below hb3)
    have HA3 := Lib.hid (HA2.out.below hb3)
    have HZ3 := Lib.hid (HZ2.out.below hb3 hlt2)
    have HB3 := Lib.hid (HB2.out.trans (hb3.mono HB2.out.size))
    have HY3 := Lib.hid (Rq2.new w3 37 10 0)
    clear hb3 z0 z1 z2 z3 z4 z5 z6 HK HKS2 HA2 HZ2 HB2 hs3 hlt2
    go_wp2_with fail
    refine (HO.out _ _ _ (HA3.out.alloc _)).mono ?_
    rintro _ w4 ⟨v4, rfl, ho4, hb4⟩
    obtain ⟨A4, c4, rfl, _, _, hr4, _⟩ := ho4.form
    have hs4 : w3.heap.size < w4.heap.size := by have := hb4.size; simp at this; omega
    have hlt4 : w.heap.size < w4.heap.size := by omega
    obtain ⟨ad, rfl, d4⟩ := hr4.at_ hqm
    rw [HLAST.out] at d4
    have HD4 := Lib.hid d4
    have HKS4 := Lib.hid ((HKS3.out.alloc _).below hb4)
    have HA4 := Lib.hid ((HA3.out.alloc _).below hb4)
    have HZ4 := Lib.hid ((HZ3.out.alloc _ hlt3).below hb4 (by simp; omega))
    have HY4 := Lib.hid (HY3.out.below hb4 (by simp))
    have HB4 := Lib.hid ((HB3.out.alloc (by omega) _).trans (hb4.mono (by simp; omega)))
    clear ho4 hb4 hr4 d4 HO HKS3 HA3 HZ3 HB3 HY3 HLAST hlt3
    go_wp2_with fail
    refine wp_region_held_drew (S := fun w' => Below w4.heap.size w4 w') (by kernel_rfl) (Below.refl _ _).drew (fun hHeld => ?_)
    refine take_at 0 42 (v := ?_) rfl rfl (by kernel_rfl) (by kernel_rfl) (by kernel_rfl) (fun _ _ _ h => h) (Or.inl ⟨by rfl, ?_⟩) (by assumption) ?_
    rotate_left
    · intro w' hSw
      go_simp
      (try with_reducible rfl)
    (try simp only [Act.put, List.setIfInBounds_toArray, List.set_cons_zero, List.set_cons_succ])
    refine take_at 1 43 (v := ?_) rfl rfl (by kernel_rfl) (by kernel_rfl) (by kernel_rfl) (fun _ _ _ h => h) (Or.inl ⟨by rfl, ?_⟩) (by assumption) ?_
    rotate_left
    · intro w' hSw
      go_simp
      (try with_reducible rfl)
    (try simp only [Act.put, List.setIfInBounds_toArray, List.set_cons_zero, List.set_cons_succ])
    refine take_at 2 44 (v := ?_) rfl rfl (by kernel_rfl) (by kernel_rfl) (by kernel_rfl) (fun _ _ _ h => h) (Or.inl ⟨by rfl, ?_⟩) (by assumption) ?_
    rotate_left
    · intro w' hSw
      have hSw' := hSw
      (try dsimp only at hSw')
      obtain ⟨y0, y1⟩ := (HY4.out.below hSw' hs4).cells
      go_simp
      (try with_reducible rfl)
    (try simp only [Act.put, List.setIfInBounds_toArray, List.set_cons_zero, List.set_cons_succ])
    refine take_at 3 45 (v := ?_) rfl rfl (by kernel_rfl) (by kernel_rfl) (by kernel_rfl) (fun _ _ _ h => h) (Or.inl ⟨by rfl, ?_⟩) (by assumption) ?_
    rotate_left
    · intro w' hSw
      go_simp
      (try with_reducible rfl)
    (try simp only [Act.put, List.setIfInBounds_toArray, List.set_cons_zero, List.set_cons_succ])
    refine take_at 4 46 (v := ?_) rfl rfl (by kernel_rfl) (by kernel_rfl) (by kernel_rfl) (fun _ _ _ h => h) (Or.inl ⟨by rfl, ?_⟩) (by assumption) ?_
    rotate_left
    · intro w' hSw
      go_simp
      (try with_reducible rfl)
    (try simp only [Act.put, List.setIfInBounds_toArray, List.set_cons_zero, List.set_cons_succ])
    refine take_at 5 47 (v := ?_) rfl rfl (by kernel_rfl) (by kernel_rfl) (by kernel_rfl) (fun _ _ _ h => h) (Or.inl ⟨by rfl, ?_⟩) (by assumption) ?_
    rotate_left
    · intro w' hSw
      go_simp
      (try with_reducible rfl)
    (try simp only [Act.put, List.setIfInBounds_toArray, List.set_cons_zero, List.set_cons_succ])
    refine take_at 6 48 (v := ?_) rfl rfl (by kernel_rfl) (by kernel_rfl) (by kernel_rfl) (fun _ _ _ h => h) (Or.inl ⟨by rfl, ?_⟩) (by assumption) ?_
    rotate_left
    · intro w' hSw
      go_simp
      (try with_reducible rfl)
    (try simp only [Act.put, List.setIfInBounds_toArray, List.set_cons_zero, List.set_cons_succ])
    refine take_at 7 49 (v := ?_) rfl rfl (by kernel_rfl) (by kernel_rfl) (by kernel_rfl) (fun _ _ _ h => h) (Or.inl ⟨by rfl, ?_⟩) (by assumption) ?_
    rotate_left
    · intro w' hSw
      go_simp
      (try with_reducible rfl)
    (try simp only [Act.put, List.setIfInBounds_toArray, List.set_cons_zero, List.set_cons_succ])
    refine take_at 8 50 (v := ?_) rfl rfl (by kernel_rfl) (by kernel_rfl) (by kernel_rfl) (fun _ _ _ h => h) (Or.inl ⟨by rfl, ?_⟩) (by assumption) ?_
    rotate_left
    · intro w' hSw
      go_simp
      (try with_reducible rfl)
    (try simp only [Act.put, List.setIfInBounds_toArray, List.set_cons_zero, List.set_cons_succ])
    refine take_at 9 51 (v := ?_) rfl rfl (by kernel_rfl) (by kernel_rfl) (by kernel_rfl) (fun _ _ _ h => h) (Or.inl ⟨by rfl, ?_⟩) (by assumption) ?_
    rotate_left
    · intro w' hSw
      go_simp
      (try with_reducible rfl)
    (try simp only [Act.put, List.setIfInBounds_toArray, List.set_cons_zero, List.set_cons_succ])
    refine wpAnyH_ready (rs := [10]) (by kernel_rfl) (by simp) ?_
    refine AllReadyH.cons (i := 10) rfl (fun K hK => ?_) AllReadyH.nil
    go_simp
    go_at_call 15
    refine (HO2.out _ HKS4.out.drew).mono ?_
    rintro _ w5 ⟨v5, rfl, ho5, hb5'⟩
    have hb5 : Below w4.heap.size w4 w5 := (Below.refl _ _).drew.trans hb5'
    obtain ⟨A5, c5, rfl, _, _, _, _⟩ := ho5.form
    have hs5 := hb5.size
    have HZ5 := Lib.hid (HZ4.out.below hb5 hlt4)
    have HA5 := Lib.hid (HA4.out.below hb5)
    have HD5 := Lib.hid (show w5.cell? (ad.add q) = _ from (hb5.cell (World.block_lt_of_cell? w4 _ HD4.out)).trans HD4.out)
    have HB5 := Lib.hid (HB4.out.trans (hb5.mono HB4.out.size))
    have hlt5 : w.heap.size < w5.heap.size := by omega
    clear ho5 hb5'
    refine hK.out _ _ hb5 (fun hHeld => ?_)
    clear hK K
    (try simp only [Act.put, List.setIfInBounds_toArray, List.set_cons_zero, List.set_cons_succ])
    refine wpAnyH_rebase hb5 ?_
    have hHeld : Below w5.heap.size w5 w5 := Below.refl _ _
    refine take_at 11 53 (v := ?_) rfl rfl (by kernel_rfl) (by kernel_rfl) (by kernel_rfl) (fun _ _ _ h => h) (Or.inl ⟨by rfl, ?_⟩) (by assumption) ?_
    rotate_left
    · intro w' hSw
      go_simp
      (try with_reducible rfl)
    (try simp only [Act.put, List.setIfInBounds_toArray, List.set_cons_zero, List.set_cons_succ])
    refine take_at 12 54 (v := ?_) rfl rfl (by kernel_rfl) (by kernel_rfl) (by kernel_rfl) (fun _ _ _ h => h) (Or.inl ⟨by rfl, ?_⟩) (by assumption) ?_
    rotate_left
    · intro w' hSw
      go_simp
      (try with_reducible rfl)
    (try simp only [Act.put, List.setIfInBounds_toArray, List.set_cons_zero, List.set_cons_succ])
    refine take_at 13 55 (v := ?_) rfl rfl (by kernel_rfl) (by kernel_rfl) (by kernel_rfl) (fun _ _ _ h => h) (Or.inl ⟨by rfl, ?_⟩) (by assumption) ?_
    rotate_left
    · intro w' hSw
      go_simp
      (try with_reducible rfl)
    (try simp only [Act.put, List.setIfInBounds_toArray, List.set_cons_zero, List.set_cons_succ])
    refine take_at 14 56 (v := ?_) rfl rfl (by kernel_rfl) (by kernel_rfl) (by kernel_rfl) (fun _ _ _ h => h) (Or.inl ⟨by rfl, ?_⟩) (by assumption) ?_
    rotate_left
    · intro w' hSw
      go_simp
      (try with_reducible rfl)
    (try simp only [Act.put, List.setIfInBounds_toArray, List.set_cons_zero, List.set_cons_succ])
    refine take_at 15 57 (v := ?_) rfl rfl (by kernel_rfl) (by kernel_rfl) (by kernel_rfl) (fun _ _ _ h => h) (Or.inl ⟨by rfl, ?_⟩) (by assumption) ?_
    rotate_left
    · intro w' hSw
      go_simp
      (try with_reducible rfl)
    (try simp only [Act.put, List.setIfInBounds_toArray, List.set_cons_zero, List.set_cons_succ])
    refine take_at 16 58 (v := ?_) rfl rfl (by kernel_rfl) (by kernel_rfl) (by kernel_rfl) (fun _ _ _ h => h) (Or.inl ⟨by rfl, ?_⟩) (by assumption) ?_
    rotate_left
    · intro w' hSw
      go_simp
      (try with_reducible rfl)
    (try simp only [Act.put, List.setIfInBounds_toArray, List.set_cons_zero, List.set_cons_succ])
    refine take_at 17 59 (v := ?_) rfl rfl (by kernel_rfl) (by kernel_rfl) (by kernel_rfl) (fun _ _ _ h => h) (Or.inl ⟨by rfl, ?_⟩) (by assumption) ?_
    rotate_left
    · intro w' hSw
      go_simp
      (try with_reducible rfl)
    (try simp only [Act.put, List.setIfInBounds_toArray, List.set_cons_zero, List.set_cons_succ])
    refine take_at 18 60 (v := ?_) rfl rfl (by kernel_rfl) (by kernel_rfl) (by kernel_rfl) (fun _ _ _ h => h) (Or.inl ⟨by rfl, ?_⟩) (by assumption) ?_
    rotate_left
    · intro w' hSw
      go_simp
      (try with_reducible rfl)
    (try simp only [Act.put, List.setIfInBounds_toArray, List.set_cons_zero, List.set_cons_succ])
    refine take_at 19 61 (v := ?_) rfl rfl (by kernel_rfl) (by kernel_rfl) (by kernel_rfl) (fun _ _ _ h => h) (Or.inl ⟨by rfl, ?_⟩) (by assumption) ?_
    rotate_left
    · intro w' hSw
      go_simp
      (try with_reducible rfl)
    (try simp only [Act.put, List.setIfInBounds_toArray, List.set_cons_zero, List.set_cons_succ])
    refine take_at 20 62 (v := ?_) rfl rfl (by kernel_rfl) (by kernel_rfl) (by kernel_rfl) (fun _ _ _ h => h) (Or.inl ⟨by rfl, ?_⟩) (by assumption) ?_
    rotate_left
    · intro w' hSw
      go_simp
      (try with_reducible rfl)
    (try simp only [Act.put, List.setIfInBounds_toArray, List.set_cons_zero, List.set_cons_succ])
    refine take_at 21 63 (v := ?_) rfl rfl (by kernel_rfl) (by kernel_rfl) (by kernel_rfl) (fun _ _ _ h => h) (Or.inl ⟨by rfl, ?_⟩) (by assumption) ?_
    rotate_left
    · intro w' hSw
      have hSw' := hSw
      (try dsimp only at hSw')
      have d5 : w'.cell? (ad.add q) = some (.int .i64 key) := (hSw'.cell (World.block_lt_of_cell? w5 _ HD5.out)).trans HD5.out
      go_simp
      (try with_reducible rfl)
    (try simp only [Act.put, List.setIfInBounds_toArray, List.set_cons_zero, List.set_cons_succ])
    refine take_at 22 64 (v := ?_) rfl rfl (by kernel_rfl) (by kernel_rfl) (by kernel_rfl) (fun _ _ _ h => h) (Or.inl ⟨by rfl, ?_⟩) (by assumption) ?_
    rotate_left
    · intro w' hSw
      go_simp
      (try with_reducible rfl)
    (try simp only [Act.put, List.setIfInBounds_toArray, List.set_cons_zero, List.set_cons_succ])
    refine take_at 23 65 (v := ?_) rfl rfl (by kernel_rfl) (by kernel_rfl) (by kernel_rfl) (fun _ _ _ h => h) (Or.inl ⟨by rfl, ?_⟩) (by assumption) ?_
    rotate_left
    · intro w' hSw
      have hSw' := hSw
      (try dsimp only at hSw')
      obtain ⟨z0, z1, z2, z3, z4, z5, z6⟩ := (HZ5.out.below hSw' hlt5).cells
      go_simp
      (try with_reducible rfl)
    (try simp only [Act.put, List.setIfInBounds_toArray, List.set_cons_zero, List.set_cons_succ])
    refine take_at 24 66 (v := ?_) rfl rfl (by kernel_rfl) (by kernel_rfl) (by kernel_rfl) (fun _ _ _ h => h) (Or.inl ⟨by rfl, ?_⟩) (by assumption) ?_
    rotate_left
    · intro w' hSw
      go_simp
      (try with_reducible rfl)
    (try simp only [Act.put, List.setIfInBounds_toArray, List.set_cons_zero, List.set_cons_succ])
    refine take_at 25 67 (v := ?_) rfl rfl (by kernel_rfl) (by kernel_rfl) (by kernel_rfl) (fun _ _ _ h => h) (Or.inl ⟨by rfl, ?_⟩) (by assumption) ?_
    rotate_left
    · intro w' hSw
      go_simp
      (try with_reducible rfl)
    (try simp only [Act.put, List.setIfInBounds_toArray, List.set_cons_zero, List.set_cons_succ])
    refine take_at 26 68 (v := ?_) rfl rfl (by kernel_rfl) (by kernel_rfl) (by kernel_rfl) (fun _ _ _ h => h) (Or.inl ⟨by rfl, ?_⟩) (by assumption) ?_
    rotate_left
    · intro w' hSw
      go_simp
      (try with_reducible rfl)
    (try simp only [Act.put, List.setIfInBounds_toArray, List.set_cons_zero, List.set_cons_succ])
    refine take_at 27 69 (v := ?_) rfl rfl (by kernel_rfl) (by kernel_rfl) (by kernel_rfl) (fun _ _ _ h => h) (Or.inl ⟨by rfl, ?_⟩) (by assumption) ?_
    rotate_left
    · intro w' hSw
      go_simp
      (try with_reducible rfl)
    (try simp only [Act.put, List.setIfInBounds_toArray, List.set_cons_zero, List.set_cons_succ])
    refine take_at 28 70 (v := ?_) rfl rfl (by kernel_rfl) (by kernel_rfl) (by kernel_rfl) (fun _ _ _ h => h) (Or.inl ⟨by rfl, ?_⟩) (by assumption) ?_
    rotate_left
    · intro w' hSw
      go_simp
      (try with_reducible rfl)
    (try simp only [Act.put, List.setIfInBounds_toArray, List.set_cons_zero, List.set_cons_succ])
    refine take_at 29 71 (v := ?_) rfl rfl (by kernel_rfl) (by kernel_rfl) (by kernel_rfl) (fun _ _ _ h => h) (Or.inl ⟨by rfl, ?_⟩) (by assumption) ?_
    rotate_left
    · intro w' hSw
      have hSw' := hSw
      (try dsimp only at hSw')
      obtain ⟨z0, z1, z2, z3, z4, z5, z6⟩ := (HZ5.out.below hSw' hlt5).cells
      go_simp
      (try with_reducible rfl)
    (try simp only [Act.put, List.setIfInBounds_toArray, List.set_cons_zero, List.set_cons_succ])
    refine take_at 31 73 (v := ?_) rfl rfl (by kernel_rfl) (by kernel_rfl) (by kernel_rfl) (fun _ _ _ h => h) (Or.inl ⟨by rfl, ?_⟩) (by assumption) ?_
    rotate_left
    · intro w' hSw
      go_simp
      (try with_reducible rfl)
    (try simp only [Act.put, List.setIfInBounds_toArray, List.set_cons_zero, List.set_cons_succ])
    refine take_at 32 74 (v := ?_) rfl rfl (by kernel_rfl) (by kernel_rfl) (by kernel_rfl) (fun _ _ _ h => h) (Or.inl ⟨by rfl, ?_⟩) (by assumption) ?_
    rotate_left
    · intro w' hSw
      go_simp
      (try with_reducible rfl)
    (try simp only [Act.put, List.setIfInBounds_toArray, List.set_cons_zero, List.set_cons_succ])
    refine wpAnyH_ready (rs := [30]) (by kernel_rfl) (by simp) ?_
    refine AllReadyH.cons (i := 30) rfl (fun K hK => ?_) AllReadyH.nil
    go_simp
    go_at_call 10
    refine (HF2.out _ _ _ HA5.out).mono ?_
    rintro _ w6 ⟨rfl, hb6⟩
    have HB6 := Lib.hid (HB5.out.trans (hb6.mono HB5.out.size))
    refine hK.out _ _ hb6 (fun hHeld => ?_)
    clear hK K
    (try simp only [Act.put, List.setIfInBounds_toArray, List.set_cons_zero, List.set_cons_succ])
    refine take_at 33 75 (v := ?_) rfl rfl (by kernel_rfl) (by kernel_rfl) (by kernel_rfl) (fun _ _ _ h => h) (Or.inl ⟨by rfl, ?_⟩) (by assumption) ?_
    rotate_left
    · intro w' hSw
      go_simp
      (try with_reducible rfl)
    (try simp only [Act.put, List.setIfInBounds_toArray, List.set_cons_zero, List.set_cons_succ])
    refine take_at 34 76 (v := ?_) rfl rfl (by kernel_rfl) (by kernel_rfl) (by kernel_rfl) (fun _ _ _ h => h) (Or.inl ⟨by rfl, ?_⟩) (by assumption) ?_
    rotate_left
    · intro w' hSw
      go_simp
      (try with_reducible rfl)
    (try simp only [Act.put, List.setIfInBounds_toArray, List.set_cons_zero, List.set_cons_succ])
    refine take_at 35 4 (v := ?_) rfl rfl (by kernel_rfl) (by kernel_rfl) (by kernel_rfl) (fun _ _ _ h => h) (Or.inl ⟨by rfl, ?_⟩) (by assumption) ?_
    rotate_left
    · intro w' hSw
      go_simp
      (try with_reducible rfl)
    (try simp only [Act.put, List.setIfInBounds_toArray, List.set_cons_zero, List.set_cons_succ])
    refine wpAnyH_done (by kernel_rfl) ?_ _
    go_wp2
    go_ret
    exact ⟨rfl, HB6.out⟩
  · have hL := putL_no hE
    rw [hL] at HP
    have hv : errV (putE ks r) = eno (putE ks r) := by rw [errV, if_neg hE]
    rw [show KeyRes (putE ks r) [] = fun W e w' => ∃ v, e = .returned (.tuple #[v, eno (putE ks r)]) ∧ OwnS known w' W.heap.size v [] ∧ Below W.heap.size W w' by unfold KeyRes; rw [hv]] at HP
    obtain ⟨E, hEE⟩ : ∃ E, putE ks r = E := ⟨_, rfl⟩
    obtain ⟨F, hFF⟩ : ∃ F, fi (findN ks r.key) = F := ⟨_, rfl⟩
    have hEF : (E == 5) = decide (0 ≤ F) := by
      subst hEE hFF
      cases hq : findN ks r.key with
      | some i =>
        have h1 : (putE ks r == 5) = true := by rw [(putE_key hq).1]; rfl
        have h2 : decide (0 ≤ fi (some i)) = true := decide_eq_true (show 0 ≤ (i : Int) by omega)
        rw [h1, h2]
      | none =>
        have hx : putE ks r = 7 := by
          by_cases h : 256 ≤ ks.length
          · exact (putE_full hq h).1
          · exact absurd (putE_ok hq (by omega)).1 hE
        rw [hx]
        rfl
    rw [hEE] at HP
    rw [hFF] at HF
    clear hE hL hv hEE hFF
    obtain ⟨key, op, ra, rb, amt, legs, til⟩ := r
    unfold Rq.val at HP ⊢
    dsimp only at HZ HB0 HP HF ⊢
    go_enter Tryd.func6, Tryd.ntmps6
    go_wp2_with fail
    refine (kawake_ok _).mono ?_
    rintro _ w1 ⟨rfl, hb1⟩
    have HR1 := Lib.hid ((HR.out.alloc _).below hb1)
    have HZ1 := Lib.hid (HZ.out.below hb1 (by simp))
    have HB1 := Lib.hid (HB0.out.trans (hb1.mono (by simp)))
    have hlt1 : w.heap.size < w1.heap.size := by have := hb1.size; simp at this; omega
    obtain ⟨z0, z1, z2, z3, z4, z5, z6⟩ := HZ1.out.cells
    clear hb1 HZ HB0 HR
    go_wp2_with fail
    refine (HP.out _ HR1.out).mono ?_
    rintro _ w2 ⟨v2, rfl, ho2, hb2⟩
    obtain ⟨A2, c2, rfl, hr2, hc2, hm2, hn2⟩ := ho2.form
    rw [show ([] : List Kn).length = 0 from rfl]
    have HB2 := Lib.hid (HB1.out.trans (hb2.mono HB1.out.size))
    have HZ2 := Lib.hid (HZ1.out.below hb2 hlt1)
    have hlt2 : w.heap.size < w2.heap.size := by have := hb2.size; omega
    have HKS2 := Lib.hid (HR1.out.below hb2)
    have HN := Lib.hid (fun p : After w2 => after_call p (number_err E p.world ((HH.out.below HB2.out).below p.below)))
    have HG := Lib.hid (fun p : After w2 => after_call p (HF.out p.world (HKS2.out.below p.below)))
    have q0 : ∀ p : After w2, p.world.cell? ⟨w.heap.size, 0, none⟩ = some (.int .i64 key) := fun p => (HZ2.out.below p.below hlt2).cells.1
    clear ho2 hb2 hr2 hn2 hm2 hc2 z0 z1 z2 z3 z4 z5 z6 HP HR1 HZ1 HB1
    go_wp2_with fail
    refine wp_region_after (by kernel_rfl) (by kernel_rfl) ?_
    repeat (go_big_quiet_step (first | (go_at_call 13; exact HN.out _) | (go_at_call 10; exact HG.out _)))
    refine wpQuiet_nil ?_
    intro _ hw'
    obtain ⟨p, rfl⟩ := hw'
    have HB6 := Lib.hid (HB2.out.trans (p.below.mono HB2.out.size))
    go_wp2
    go_ret
    exact ⟨rfl, HB6.out⟩
end Go.Proofs.YtmokdmojhfhopaaDoor
