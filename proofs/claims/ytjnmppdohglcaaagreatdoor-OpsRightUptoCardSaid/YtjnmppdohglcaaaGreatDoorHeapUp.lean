/-
  container/heap by its contracts, over a heap whose methods are known: up, down, Push, Pop.
-/
import Derived.Test.YtjnmppdohglcaaaGreatDoorGrA
import Derived.Test.YtjnmppdohglcaaaGreatDoorHeapPlain
import Derived.Test.YtjnmppdohglcaaaGreatDoorProg
namespace Go.Proofs.YtjnmppdohglcaaaGreatDoor
open Go Go.RowKit
set_option linter.unusedVariables false

theorem Tryz.hLen (v : Value) (w : World) : (Go.method 305 88 v "Len").run Tryz.prog w = .ok (33, v) w := by kernel_rfl
theorem Tryz.hLess (v : Value) (w : World) : (Go.method 305 88 v "Less").run Tryz.prog w = .ok (114, v) w := by kernel_rfl
theorem Tryz.hSwap (v : Value) (w : World) : (Go.method 305 88 v "Swap").run Tryz.prog w = .ok (117, v) w := by kernel_rfl
theorem Tryz.hPush (v : Value) (w : World) : (Go.method 305 88 v "Push").run Tryz.prog w = .ok (116, v) w := by kernel_rfl
theorem Tryz.hPop (v : Value) (w : World) : (Go.method 305 88 v "Pop").run Tryz.prog w = .ok (115, v) w := by kernel_rfl

/-- A heap that the world holds, by its methods. -/
structure HeapOps (me : Value) (lt : Int → Int → Bool) (HS : World → List Int → Prop) (Rel : World → World → Prop) : Prop where
  refl : ∀ w, Rel w w
  trans : ∀ a b c, Rel a b → Rel b c → Rel a c
  small : ∀ w xs, HS w xs → xs.length ≤ 1000000000000000000
  len : ∀ w xs, HS w xs → Calls Tryz.prog 33 #[me] w fun e w' => e = .returned (.int .i64 (xs.length : Int)) ∧ HS w' xs ∧ Rel w w'
  less : ∀ w xs (i j : Nat), HS w xs → i < xs.length → j < xs.length → Calls Tryz.prog 114 #[me, .int .i64 (i : Int), .int .i64 (j : Int)] w fun e w' => e = .returned (.bool (lt (xs.getD i 0) (xs.getD j 0))) ∧ HS w' xs ∧ Rel w w'
  swap : ∀ w xs (i j : Nat), HS w xs → i < xs.length → j < xs.length → Calls Tryz.prog 117 #[me, .int .i64 (i : Int), .int .i64 (j : Int)] w fun e w' => e = .returned (.tuple #[]) ∧ HS w' (swapL 0 xs i j) ∧ Rel w w'

section
variable {me : Value} {lt : Int → Int → Bool} {HS : World → List Int → Prop} {Rel : World → World → Prop}

set_option maxRecDepth 100000 in
theorem up_any (H : HeapOps me lt HS Rel) (xs : List Int) (j : Nat) (w : World) (hs : HS w xs) (hj : j < xs.length) :
    Calls Tryz.prog 71 #[.iface 88 me, .int .i64 (j : Int)] w fun e w' => e = .returned (.tuple #[]) ∧ HS w' (upL lt 0 xs j) ∧ Rel w w' := by
  have hsm := H.small _ _ hs
  have m1 := Tryz.hLess me
  have m2 := Tryz.hSwap me
  have HH := Lib.hid H
  have HS0 := Lib.hid hs
  clear H hs
  go_enter Tryz.func71, Tryz.ntmps71
  go_wp2
  go_loopw [1] (fun v wr => ∃ (i : Nat) (ys : List Int), v = .int .i64 (i : Int) ∧ HS wr ys ∧ Rel w wr ∧ i < ys.length ∧ ys.length = xs.length ∧ upL lt 0 ys i = upL lt 0 xs j) (fun v _ => (intOf v).toNat)
  case atStart => exact ⟨j, xs, rfl, HS0.out, HH.out.refl _, hj, rfl, rfl⟩
  case round =>
    obtain ⟨i, ys, rfl, h1, h2, h3, h4, h5⟩ := hrel
    have HS1 := Lib.hid h1
    have HR1 := Lib.hid h2
    have HU := Lib.hid h5
    clear h1 h2 h5
    by_cases h0 : i = 0
    · subst h0
      go_wp2
      go_end0
      exact ⟨rfl, by rw [← HU.out, upL_top]; exact HS1.out, HR1.out⟩
    · have hi : 0 < i := by omega
      obtain ⟨q, hq⟩ : ∃ q : Nat, (i - 1) / 2 = q := ⟨_, rfl⟩
      have hq' : ((i : Int) - 1) / 2 = (q : Int) := by omega
      have hqi : q < i := by omega
      have q1 := eqF (show ¬ (q : Int) = (i : Int) by omega)
      go_wp2_with fail
      rw [hq']
      have hl := HH.out.less _ _ i q HS1.out h3 (by omega)
      obtain ⟨b, hb⟩ : ∃ b, lt (ys.getD i 0) (ys.getD q 0) = b := ⟨_, rfl⟩
      rw [hb] at hl
      have HL := Lib.hid hl
      clear hl
      refine HL.out.mono ?_
      rintro _ w1 ⟨rfl, hs1, hr1⟩
      have HS2 := Lib.hid hs1
      have HR2 := Lib.hid (HH.out.trans _ _ _ HR1.out hr1)
      clear hs1 hr1 HL HS1 HR1
      cases b
      · have HE := Lib.hid (show upL lt 0 ys i = ys from upL_keep (by rw [hq]; exact hb))
        clear hb
        go_wp2
        go_end0
        exact ⟨rfl, by rw [← HU.out, HE.out]; exact HS2.out, HR2.out⟩
      · have HE := Lib.hid (show upL lt 0 ys i = upL lt 0 (swapL 0 ys q i) q by rw [upL_go hi (by rw [hq]; exact hb), hq])
        have HW := Lib.hid (HH.out.swap _ _ q i HS2.out (by omega) h3)
        clear hb
        go_wp2_with fail
        refine HW.out.mono ?_
        rintro _ w2 ⟨rfl, hs2, hr2⟩
        have HS3 := Lib.hid hs2
        have HR3 := Lib.hid (HH.out.trans _ _ _ HR2.out hr2)
        clear hs2 hr2 HW
        go_wp2
        go_roundw
        case rel => exact ⟨q, swapL 0 ys q i, rfl, HS3.out, HR3.out, by rw [swapL_length]; omega, by rw [swapL_length]; exact h4, by rw [← HE.out]; exact HU.out⟩
        case measure => simp [intOf]; omega

set_option maxRecDepth 100000 in
set_option maxHeartbeats 1000000 in
theorem down_any (H : HeapOps me lt HS Rel) (xs : List Int) (i n : Nat) (w : World) (hs : HS w xs) (hi : i ≤ 1000000000000000000) (hn : n ≤ xs.length) :
    Calls Tryz.prog 72 #[.iface 88 me, .int .i64 (i : Int), .int .i64 (n : Int)] w fun e w' => (∃ b, e = .returned (.bool b)) ∧ HS w' (downL lt 0 xs i n) ∧ Rel w w' := by
  have hsm := H.small _ _ hs
  have m1 := Tryz.hLess me
  have m2 := Tryz.hSwap me
  have HH := Lib.hid H
  have HS0 := Lib.hid hs
  clear H hs
  go_enter Tryz.func72, Tryz.ntmps72
  go_wp2
  go_loopw [7] (fun v wr => ∃ (k : Nat) (ys : List Int), v = .int .i64 (k : Int) ∧ HS wr ys ∧ Rel w wr ∧ k ≤ 1000000000000000000 ∧ ys.length = xs.length ∧ downL lt 0 ys k n = downL lt 0 xs i n) (fun v _ => n - (intOf v).toNat)
  case atStart => exact ⟨i, xs, rfl, HS0.out, HH.out.refl _, hi, rfl, rfl⟩
  case round =>
    obtain ⟨k, ys, rfl, h1, h2, h3, h4, h5⟩ := hrel
    have HS1 := Lib.hid h1
    have HR1 := Lib.hid h2
    have HU := Lib.hid h5
    clear h1 h2 h5
    by_cases hk : 2 * k + 1 < n
    · have c1 : ¬ (n : Int) ≤ 2 * (k : Int) + 1 := by omega
      have c3 : decide (2 * (k : Int) + 1 < 0) = false := decide_eq_false (by omega)
      by_cases hk2 : 2 * k + 2 < n
      · have c2 : 2 * (k : Int) + 1 + 1 < (n : Int) := by omega
        have hl := HH.out.less _ _ (2 * k + 2) (2 * k + 1) HS1.out (by omega) (by omega)
        rw [show ((2 * k + 2 : Nat) : Int) = 2 * (k : Int) + 1 + 1 by omega, show ((2 * k + 1 : Nat) : Int) = 2 * (k : Int) + 1 by omega] at hl
        obtain ⟨b, hb⟩ : ∃ b, lt (ys.getD (2 * k + 2) 0) (ys.getD (2 * k + 1) 0) = b := ⟨_, rfl⟩
        rw [hb] at hl
        have HL := Lib.hid hl
        clear hl
        go_wp2_with fail
        refine HL.out.mono ?_
        rintro _ w1 ⟨rfl, hs1, hr1⟩
        have HS2 := Lib.hid hs1
        have HR2 := Lib.hid (HH.out.trans _ _ _ HR1.out hr1)
        clear hs1 hr1 HL HS1 HR1
        cases b
        · have hch : childL lt 0 ys k n = 2 * k + 1 := by unfold childL; rw [if_neg (by rw [hb]; simp)]
          clear hb
          have hl2 := HH.out.less _ _ (2 * k + 1) k HS2.out (by omega) (by omega)
          rw [show ((2 * k + 1 : Nat) : Int) = 2 * (k : Int) + 1 by omega] at hl2
          obtain ⟨b2, hb2⟩ : ∃ b, lt (ys.getD (2 * k + 1) 0) (ys.getD k 0) = b := ⟨_, rfl⟩
          rw [hb2] at hl2
          have HL2 := Lib.hid hl2
          clear hl2
          go_wp2_with fail
          refine HL2.out.mono ?_
          rintro _ w2 ⟨rfl, hs2, hr2⟩
          have HS3 := Lib.hid hs2
          have HR3 := Lib.hid (HH.out.trans _ _ _ HR2.out hr2)
          clear hs2 hr2 HL2
          cases b2
          · have HE := Lib.hid (show downL lt 0 ys k n = ys from downL_keep hk (by rw [hch]; exact hb2))
            clear hb2 hch
            go_wp2
            go_ret
            exact ⟨⟨_, rfl⟩, by rw [← HU.out, HE.out]; exact HS3.out, HR3.out⟩
          · have HE := Lib.hid (show downL lt 0 ys k n = downL lt 0 (swapL 0 ys k (2 * k + 1)) (2 * k + 1) n by rw [downL_go hk (by rw [hch]; exact hb2), hch])
            have hw2 := HH.out.swap _ _ k (2 * k + 1) HS3.out (by omega) (by omega)
            rw [show ((2 * k + 1 : Nat) : Int) = 2 * (k : Int) + 1 by omega] at hw2
            have HW := Lib.hid hw2
            clear hb2 hch hw2
            go_wp2_with fail
            refine HW.out.mono ?_
            rintro _ w3 ⟨rfl, hs3, hr3⟩
            have HS4 := Lib.hid hs3
            have HR4 := Lib.hid (HH.out.trans _ _ _ HR3.out hr3)
            clear hs3 hr3 HW
            go_wp2
            go_roundw
            case rel => exact ⟨2 * k + 1, swapL 0 ys k (2 * k + 1), by congr 1, HS4.out, HR4.out, by omega, by rw [swapL_length]; exact h4, by rw [← HE.out]; exact HU.out⟩
            case measure => simp [intOf]; omega
        · have hch : childL lt 0 ys k n = 2 * k + 2 := by unfold childL; rw [if_pos ⟨hk2, hb⟩]
          clear hb
          have hl2 := HH.out.less _ _ (2 * k + 2) k HS2.out (by omega) (by omega)
          rw [show ((2 * k + 2 : Nat) : Int) = 2 * (k : Int) + 1 + 1 by omega] at hl2
          obtain ⟨b2, hb2⟩ : ∃ b, lt (ys.getD (2 * k + 2) 0) (ys.getD k 0) = b := ⟨_, rfl⟩
          rw [hb2] at hl2
          have HL2 := Lib.hid hl2
          clear hl2
          go_wp2_with fail
          refine HL2.out.mono ?_
          rintro _ w2 ⟨rfl, hs2, hr2⟩
          have HS3 := Lib.hid hs2
          have HR3 := Lib.hid (HH.out.trans _ _ _ HR2.out hr2)
          clear hs2 hr2 HL2
          cases b2
          · have HE := Lib.hid (show downL lt 0 ys k n = ys from downL_keep hk (by rw [hch]; exact hb2))
            clear hb2 hch
            go_wp2
            go_ret
            exact ⟨⟨_, rfl⟩, by rw [← HU.out, HE.out]; exact HS3.out, HR3.out⟩
          · have HE := Lib.hid (show downL lt 0 ys k n = downL lt 0 (swapL 0 ys k (2 * k + 2)) (2 * k + 2) n by rw [downL_go hk (by rw [hch]; exact hb2), hch])
            have hw2 := HH.out.swap _ _ k (2 * k + 2) HS3.out (by omega) (by omega)
            rw [show ((2 * k + 2 : Nat) : Int) = 2 * (k : Int) + 1 + 1 by omega] at hw2
            have HW := Lib.hid hw2
            clear hb2 hch hw2
            go_wp2_with fail
            refine HW.out.mono ?_
            rintro _ w3 ⟨rfl, hs3, hr3⟩
            have HS4 := Lib.hid hs3
            have HR4 := Lib.hid (HH.out.trans _ _ _ HR3.out hr3)
            clear hs3 hr3 HW
            go_wp2
            go_roundw
            case rel => exact ⟨2 * k + 2, swapL 0 ys k (2 * k + 2), by congr 1, HS4.out, HR4.out, by omega, by rw [swapL_length]; exact h4, by rw [← HE.out]; exact HU.out⟩
            case measure => simp [intOf]; omega
      · have c2 : decide (2 * (k : Int) + 1 + 1 < (n : Int)) = false := decide_eq_false (by omega)
        have hch : childL lt 0 ys k n = 2 * k + 1 := by unfold childL; rw [if_neg (fun h => hk2 h.1)]
        have hl2 := HH.out.less _ _ (2 * k + 1) k HS1.out (by omega) (by omega)
        rw [show ((2 * k + 1 : Nat) : Int) = 2 * (k : Int) + 1 by omega] at hl2
        obtain ⟨b2, hb2⟩ : ∃ b, lt (ys.getD (2 * k + 1) 0) (ys.getD k 0) = b := ⟨_, rfl⟩
        rw [hb2] at hl2
        have HL2 := Lib.hid hl2
        clear hl2
        go_wp2_with fail
        refine HL2.out.mono ?_
        rintro _ w2 ⟨rfl, hs2, hr2⟩
        have HS3 := Lib.hid hs2
        have HR3 := Lib.hid (HH.out.trans _ _ _ HR1.out hr2)
        clear hs2 hr2 HL2
        cases b2
        · have HE := Lib.hid (show downL lt 0 ys k n = ys from downL_keep hk (by rw [hch]; exact hb2))
          clear hb2 hch
          go_wp2
          go_ret
          exact ⟨⟨_, rfl⟩, by rw [← HU.out, HE.out]; exact HS3.out, HR3.out⟩
        · have HE := Lib.hid (show downL lt 0 ys k n = downL lt 0 (swapL 0 ys k (2 * k + 1)) (2 * k + 1) n by rw [downL_go hk (by rw [hch]; exact hb2), hch])
          have hw2 := HH.out.swap _ _ k (2 * k + 1) HS3.out (by omega) (by omega)
          rw [show ((2 * k + 1 : Nat) : Int) = 2 * (k : Int) + 1 by omega] at hw2
          have HW := Lib.hid hw2
          clear hb2 hch hw2
          go_wp2_with fail
          refine HW.out.mono ?_
          rintro _ w3 ⟨rfl, hs3, hr3⟩
          have HS4 := Lib.hid hs3
          have HR4 := Lib.hid (HH.out.trans _ _ _ HR3.out hr3)
          clear hs3 hr3 HW
          go_wp2
          go_roundw
          case rel => exact ⟨2 * k + 1, swapL 0 ys k (2 * k + 1), by congr 1, HS4.out, HR4.out, by omega, by rw [swapL_length]; exact h4, by rw [← HE.out]; exact HU.out⟩
          case measure => simp [intOf]; omega
    · have c1 : (n : Int) ≤ 2 * (k : Int) + 1 := by omega
      have HE := Lib.hid (show downL lt 0 ys k n = ys from downL_stop hk)
      go_wp2
      go_ret
      exact ⟨⟨_, rfl⟩, by rw [← HU.out, HE.out]; exact HS1.out, HR1.out⟩
end
end Go.Proofs.YtjnmppdohglcaaaGreatDoor
