/-
  keys.clone and keys.Put by their contracts.
-/
import Derived.Test.YtjphkpohcgkcmaaGreatDoorKeyFind
import Derived.Test.YtjphkpohcgkcmaaGreatDoorGrA
import Derived.Test.YtjphkpohcgkcmaaGreatDoorRq7
import Derived.Test.YtjphkpohcgkcmaaGreatDoorKeyClone
namespace Go.Proofs.YtjphkpohcgkcmaaGreatDoor
open Go Go.RowKit
set_option linter.unusedVariables false

theorem putE_key {ks : List Kn} {r : Rq} {i : Nat} (h : findN ks r.key = some i) : kputE ks r = 5 ∧ putL ks r = [] := by simp [kputE, putL, h]
theorem putE_full {ks : List Kn} {r : Rq} (h : findN ks r.key = none) (hn : 256 ≤ ks.length) : kputE ks r = 7 ∧ putL ks r = [] := by simp [kputE, putL, h, hn]
theorem kputE_ok {ks : List Kn} {r : Rq} (h : findN ks r.key = none) (hn : ks.length < 256) : kputE ks r = 0 ∧ putL ks r = ks ++ [⟨r, 0, 0, false⟩] := by
  have : ¬ 256 ≤ ks.length := by omega
  simp [kputE, putL, h, this]

set_option maxRecDepth 100000 in
set_option maxHeartbeats 4000000 in
theorem kput_any (A : Option Addr) (n cap : Nat) (ks : List Kn) (r : Rq) (w : World) (hl : ks.length = n) (hr : RdS known w A ks) (hn : n ≤ 9223372036854775807) (hnil : A = none → n = 0 ∧ cap = 0) :
    Calls Tryz.prog 33 #[.slice A n cap, r.val] w (KeyRes (kputE ks r) (putL ks r) w) := by
  obtain ⟨E, hE⟩ : ∃ E, kputE ks r = E := ⟨_, rfl⟩
  obtain ⟨L, hL⟩ : ∃ L, putL ks r = L := ⟨_, rfl⟩
  rw [hE, hL]
  have HF := Lib.hid (fun W (h : RdS known W A ks) => find_any A n cap ks r.key W hl h hn)
  have HC : Hid (∀ W, RdS known W A ks → n < 256 → Calls Tryz.prog 54 #[.slice A n cap, .int .i64 (IntKind.i64.wrap ((n : Int) + 1))] W fun e w' => ∃ g, e = .returned (.slice (some ⟨g, 0, none⟩) n (n + 1)) ∧ W.heap.size ≤ g ∧ OwnS known w' W.heap.size (.slice (some ⟨g, 0, none⟩) n (n + 1)) ks ∧ Below W.heap.size W w') := Lib.hid (fun W h h1 => by
    have e : IntKind.i64.wrap ((n : Int) + 1) = ((n + 1 : Nat) : Int) := by rw [IntKind.wrap_i64]; omega
    rw [e]
    exact kclone_any A n cap (n + 1) ks W hl h (by omega) (by omega) hnil)
  have HR := Lib.hid hr
  have HZ := Lib.hid (Rq7.new w 42 r.key r.op r.a r.b r.amt r.legs r.til)
  have HB0 := Lib.hid ((Below.refl w.heap.size w).alloc (Nat.le_refl _) (.cells #[.int .i64 r.key, .int .i64 r.op, .int .i64 r.a, .int .i64 r.b, .int .i64 r.amt, .int .i64 r.legs, .int .i64 r.til] 42))
  have HL := Lib.hid hl
  obtain ⟨q, hq⟩ : ∃ q, findN ks r.key = q := ⟨_, rfl⟩
  rw [hq] at HF
  cases q with
  | some i =>
    obtain ⟨h1, h2⟩ := putE_key hq
    obtain rfl : E = 5 := hE.symm.trans h1
    obtain rfl : L = [] := hL.symm.trans h2
    clear hl hr hnil hE hL hq h1 h2 HC
    rw [show fi (some i) = (i : Int) from rfl] at HF
    obtain ⟨key, op, ra, rb, amt, legs, til⟩ := r
    unfold Rq.val
    dsimp only at HF HZ HB0 ⊢
    go_enter Tryz.func33, Tryz.ntmps33
    go_wp2_with fail
    refine (HF.out _ (HR.out.alloc _)).mono ?_
    rintro _ w2 ⟨rfl, hb2⟩
    have HB2 := Lib.hid (HB0.out.trans (hb2.mono (by simp)))
    clear hb2
    go_wp2
    go_ret2
    exact keyRes_no rfl (by omega) rfl HB2.out
  | none =>
    rw [show fi none = -1 from rfl] at HF
    by_cases h256 : 256 ≤ n
    · obtain ⟨h1, h2⟩ := putE_full hq (by rw [hl]; exact h256)
      obtain rfl : E = 7 := hE.symm.trans h1
      obtain rfl : L = [] := hL.symm.trans h2
      clear hl hr hnil hE hL hq h1 h2 HC
      obtain ⟨key, op, ra, rb, amt, legs, til⟩ := r
      unfold Rq.val
      dsimp only at HF HZ HB0 ⊢
      go_enter Tryz.func33, Tryz.ntmps33
      go_wp2_with fail
      refine (HF.out _ (HR.out.alloc _)).mono ?_
      rintro _ w2 ⟨rfl, hb2⟩
      have HB2 := Lib.hid (HB0.out.trans (hb2.mono (by simp)))
      clear hb2
      go_wp2
      go_ret2
      exact keyRes_no rfl (by omega) rfl HB2.out
    · have hlt : n < 256 := by omega
      obtain ⟨h1, h2⟩ := kputE_ok hq (by rw [hl]; exact hlt)
      obtain rfl : E = 0 := hE.symm.trans h1
      obtain rfl : L = _ := hL.symm.trans h2
      clear hl hr hnil hE hL hq h1 h2 h256
      obtain ⟨key, op, ra, rb, amt, legs, til⟩ := r
      unfold Rq.val
      dsimp only at HF HZ HB0 ⊢
      go_enter Tryz.func33, Tryz.ntmps33
      go_wp2_with fail
      refine (HF.out _ (HR.out.alloc _)).mono ?_
      rintro _ w2 ⟨rfl, hb2⟩
      have hz2 : w.heap.size < w2.heap.size := by have := hb2.size; simp at this; omega
      have HZ2 := Lib.hid (HZ.out.below hb2 (by simp))
      have HB2 := Lib.hid (HB0.out.trans (hb2.mono (by simp)))
      have HR2 := Lib.hid ((HR.out.alloc _).below hb2)
      clear hb2 HF HZ HB0 HR
      go_wp2
      refine wp_region_held_drew (S := fun w' => Rq7 w' w.heap.size 42 key op ra rb amt legs til) (by kernel_rfl) HZ2.out.drew (fun hHeld => ?_)
      refine take_at 0 16 (v := ?_) rfl rfl (by kernel_rfl) (by kernel_rfl) (by kernel_rfl) (fun _ _ _ h => h) (Or.inl ⟨by rfl, ?_⟩) (by assumption) ?_
      rotate_left
      · intro w' hSw
        go_simp
        (try with_reducible rfl)
      (try simp only [Act.put, List.setIfInBounds_toArray, List.set_cons_zero, List.set_cons_succ])
      refine take_at 1 17 (v := ?_) rfl rfl (by kernel_rfl) (by kernel_rfl) (by kernel_rfl) (fun _ _ _ h => h) (Or.inl ⟨by rfl, ?_⟩) (by assumption) ?_
      rotate_left
      · intro w' hSw
        go_simp
        (try with_reducible rfl)
      (try simp only [Act.put, List.setIfInBounds_toArray, List.set_cons_zero, List.set_cons_succ])
      refine take_at 2 18 (v := ?_) rfl rfl (by kernel_rfl) (by kernel_rfl) (by kernel_rfl) (fun _ _ _ h => h) (Or.inl ⟨by rfl, ?_⟩) (by assumption) ?_
      rotate_left
      · intro w' hSw
        go_simp
        (try with_reducible rfl)
      (try simp only [Act.put, List.setIfInBounds_toArray, List.set_cons_zero, List.set_cons_succ])
      refine take_at 3 19 (v := ?_) rfl rfl (by kernel_rfl) (by kernel_rfl) (by kernel_rfl) (fun _ _ _ h => h) (Or.inl ⟨by rfl, ?_⟩) (by assumption) ?_
      rotate_left
      · intro w' hSw
        go_simp
        (try with_reducible rfl)
      (try simp only [Act.put, List.setIfInBounds_toArray, List.set_cons_zero, List.set_cons_succ])
      refine take_at 5 21 (v := ?_) rfl rfl (by kernel_rfl) (by kernel_rfl) (by kernel_rfl) (fun _ _ _ h => h) (Or.inl ⟨by rfl, ?_⟩) (by assumption) ?_
      rotate_left
      · intro w' hSw
        have hSw' := hSw
        (try dsimp only at hSw')
        obtain ⟨z0, z1, z2, z3, z4, z5, z6⟩ := Rq7.cells hSw'
        go_simp
        (try with_reducible rfl)
      (try simp only [Act.put, List.setIfInBounds_toArray, List.set_cons_zero, List.set_cons_succ])
      refine take_at 6 22 (v := ?_) rfl rfl (by kernel_rfl) (by kernel_rfl) (by kernel_rfl) (fun _ _ _ h => h) (Or.inl ⟨by rfl, ?_⟩) (by assumption) ?_
      rotate_left
      · intro w' hSw
        go_simp
        (try with_reducible rfl)
      (try simp only [Act.put, List.setIfInBounds_toArray, List.set_cons_zero, List.set_cons_succ])
      refine wpAnyH_ready (rs := [4, 7]) (by kernel_rfl) (by simp) ?_
      refine AllReadyH.cons (i := 4) rfl (fun K hK => ?_) (AllReadyH.cons (i := 7) rfl (fun K hK => ?_) AllReadyH.nil)
      · go_simp
        go_at_call 54
        refine (HC.out _ HR2.out.drew hlt).mono ?_
        rintro _ w3 ⟨g3, rfl, hg3, ho3, hb3'⟩
        have hs3 : w2.heap.size ≤ w2.drew.heap.size := Nat.le_refl _
        have hb3 : Below w2.heap.size w2 w3 := (Below.refl _ _).drew.trans hb3'
        have hg3' : w.heap.size < g3 := Nat.lt_of_lt_of_le hz2 (Nat.le_trans hs3 hg3)
        have hz3 : w.heap.size ≤ w3.heap.size := Nat.le_trans (Nat.le_of_lt hz2) hb3.size
        have hlt3 : w.heap.size < w3.heap.size := Nat.lt_of_lt_of_le hz2 hb3.size
        have HZ3 := Lib.hid (HZ2.out.below hb3 hz2)
        have HO3 : Hid (OwnS known w3 w.heap.size (.slice (some ⟨g3, 0, none⟩) n (n + 1)) ks) := Lib.hid (ho3.less (Nat.le_trans (Nat.le_of_lt hz2) hs3))
        have HB3 := Lib.hid (HB2.out.trans (hb3.mono HB2.out.size))
        clear ho3
        refine hK.out _ _ HZ3.out (fun hHeld => ?_)
        clear hK K
        (try simp only [Act.put, List.setIfInBounds_toArray, List.set_cons_zero, List.set_cons_succ])
        refine wpAnyH_ready (rs := [7]) (by kernel_rfl) (by simp) ?_
        refine AllReadyH.cons (i := 7) rfl (fun K hK => ?_) AllReadyH.nil
        go_simp
        refine hK.out _ _ (Rq7.alloc HZ3.out _ (Nat.lt_of_lt_of_le hz2 hb3.size)) (fun hHeld => ?_)
        clear hK K
        (try simp only [Act.put, List.setIfInBounds_toArray, List.set_cons_zero, List.set_cons_succ])
        refine wpAnyH_ready (rs := [8]) (by kernel_rfl) (by simp) ?_
        refine AllReadyH.cons (i := 8) rfl (fun K hK => ?_) AllReadyH.nil
        refine step_append_rec known 32 Tryz.underlying32 info_known rfl rfl 24 rfl (.tmp 20) (.tmp 23) rfl w.heap.size _ ks rfl (HO3.out.alloc _) _ _ ⟨⟨key, op, ra, rb, amt, legs, til⟩, 0, 0, false⟩ rfl (AtS.new rfl) (by rw [HL.out]; omega) (by rw [HL.out]; omega) (by simp; omega) ?_
        intro v4 w4 ho4 hg4
        have HO4 := Lib.hid ho4
        have HB4 : Hid (Below w.heap.size w w4) := Lib.hid (below_grown (HB3.out.alloc hz3 _) hg4 (by simp; omega) (by omega))
        have HZ4 : Hid (Rq7 w4 w.heap.size 42 key op ra rb amt legs til) := Lib.hid ((grown_at hg4 (by simp; omega) (by omega)).trans hHeld)
        clear ho4 hg4
        refine hK.out _ _ HZ4.out (fun hHeld => ?_)
        clear hK K
        (try simp only [Act.put, List.setIfInBounds_toArray, List.set_cons_zero, List.set_cons_succ])
        refine take_at 9 4 (v := ?_) rfl rfl (by kernel_rfl) (by kernel_rfl) (by kernel_rfl) (fun _ _ _ h => h) (Or.inl ⟨by rfl, ?_⟩) (by assumption) ?_
        rotate_left
        · intro w' hSw
          go_simp
          (try with_reducible rfl)
        (try simp only [Act.put, List.setIfInBounds_toArray, List.set_cons_zero, List.set_cons_succ])
        refine take_at 10 5 (v := ?_) rfl rfl (by kernel_rfl) (by kernel_rfl) (by kernel_rfl) (fun _ _ _ h => h) (Or.inl ⟨by rfl, ?_⟩) (by assumption) ?_
        rotate_left
        · intro w' hSw
          go_simp
          (try with_reducible rfl)
        (try simp only [Act.put, List.setIfInBounds_toArray, List.set_cons_zero, List.set_cons_succ])
        refine wpAnyH_done (by kernel_rfl) ?_ _
        go_wp2
        go_ret2
        exact keyRes_ok rfl HO4.out HB4.out
      · go_simp
        refine hK.out _ _ (Rq7.alloc HZ2.out _ hz2) (fun hHeld => ?_)
        clear hK K
        (try simp only [Act.put, List.setIfInBounds_toArray, List.set_cons_zero, List.set_cons_succ])
        refine wpAnyH_ready (rs := [4]) (by kernel_rfl) (by simp) ?_
        refine AllReadyH.cons (i := 4) rfl (fun K hK => ?_) AllReadyH.nil
        go_simp
        go_at_call 54
        refine (HC.out _ (HR2.out.drew.alloc _) hlt).mono ?_
        rintro _ w3 ⟨g3, rfl, hg3, ho3, hb3'⟩
        have hs3 : w2.heap.size ≤ (w2.drew.alloc (.cells #[.int .i64 key, .int .i64 op, .int .i64 ra, .int .i64 rb, .int .i64 amt, .int .i64 legs, .int .i64 til, .int .i64 0, .int .i64 0, .bool false] 120)).heap.size := (by simp)
        have hb3 : Below w2.heap.size w2 w3 := ((Below.refl _ _).drew.alloc (Nat.le_refl _) _).trans (hb3'.mono (by simp))
        have hg3' : w.heap.size < g3 := Nat.lt_of_lt_of_le hz2 (Nat.le_trans hs3 hg3)
        have hz3 : w.heap.size ≤ w3.heap.size := Nat.le_trans (Nat.le_of_lt hz2) hb3.size
        have hlt3 : w.heap.size < w3.heap.size := Nat.lt_of_lt_of_le hz2 hb3.size
        have HZ3 := Lib.hid (HZ2.out.below hb3 hz2)
        have HO3 : Hid (OwnS known w3 w.heap.size (.slice (some ⟨g3, 0, none⟩) n (n + 1)) ks) := Lib.hid (ho3.less (Nat.le_trans (Nat.le_of_lt hz2) hs3))
        have HB3 := Lib.hid (HB2.out.trans (hb3.mono HB2.out.size))
        clear ho3
        refine hK.out _ _ HZ3.out (fun hHeld => ?_)
        clear hK K
        (try simp only [Act.put, List.setIfInBounds_toArray, List.set_cons_zero, List.set_cons_succ])
        have hat : AtS known w3 ⟨w2.heap.size, 0, none⟩ 0 ⟨⟨key, op, ra, rb, amt, legs, til⟩, 0, 0, false⟩ := AtS.below (AtS.new (w := w2.drew) rfl) hb3'
        refine wpAnyH_ready (rs := [8]) (by kernel_rfl) (by simp) ?_
        refine AllReadyH.cons (i := 8) rfl (fun K hK => ?_) AllReadyH.nil
        refine step_append_rec known 32 Tryz.underlying32 info_known rfl rfl 24 rfl (.tmp 20) (.tmp 23) rfl w.heap.size _ ks rfl HO3.out _ _ ⟨⟨key, op, ra, rb, amt, legs, til⟩, 0, 0, false⟩ rfl hat (by rw [HL.out]; omega) (by rw [HL.out]; omega) hz3 ?_
        intro v4 w4 ho4 hg4
        have HO4 := Lib.hid ho4
        have HB4 : Hid (Below w.heap.size w w4) := Lib.hid (below_grown HB3.out hg4 hz3 (by omega))
        have HZ4 : Hid (Rq7 w4 w.heap.size 42 key op ra rb amt legs til) := Lib.hid ((grown_at hg4 (by omega) (by omega)).trans hHeld)
        clear ho4 hg4
        refine hK.out _ _ HZ4.out (fun hHeld => ?_)
        clear hK K
        (try simp only [Act.put, List.setIfInBounds_toArray, List.set_cons_zero, List.set_cons_succ])
        refine take_at 9 4 (v := ?_) rfl rfl (by kernel_rfl) (by kernel_rfl) (by kernel_rfl) (fun _ _ _ h => h) (Or.inl ⟨by rfl, ?_⟩) (by assumption) ?_
        rotate_left
        · intro w' hSw
          go_simp
          (try with_reducible rfl)
        (try simp only [Act.put, List.setIfInBounds_toArray, List.set_cons_zero, List.set_cons_succ])
        refine take_at 10 5 (v := ?_) rfl rfl (by kernel_rfl) (by kernel_rfl) (by kernel_rfl) (fun _ _ _ h => h) (Or.inl ⟨by rfl, ?_⟩) (by assumption) ?_
        rotate_left
        · intro w' hSw
          go_simp
          (try with_reducible rfl)
        (try simp only [Act.put, List.setIfInBounds_toArray, List.set_cons_zero, List.set_cons_succ])
        refine wpAnyH_done (by kernel_rfl) ?_ _
        go_wp2
        go_ret2
        exact keyRes_ok rfl HO4.out HB4.out
end Go.Proofs.YtjphkpohcgkcmaaGreatDoor
