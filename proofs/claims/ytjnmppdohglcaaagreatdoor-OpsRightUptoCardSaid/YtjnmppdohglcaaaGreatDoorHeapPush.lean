/-
  container/heap's Push and Pop by their contracts, over a heap of ints whose methods are known.
-/
import Derived.Test.YtjnmppdohglcaaaGreatDoorHeapUp
namespace Go.Proofs.YtjnmppdohglcaaaGreatDoor
open Go Go.RowKit
set_option linter.unusedVariables false

/-- A heap of ints that may grow by those that are ok, while it has fewer than R elements. -/
structure HeapGrow (me : Value) (lt : Int → Int → Bool) (R : Nat) (ok : Int → Prop) (HS : World → List Int → Prop) (Rel : World → World → Prop) : Prop extends HeapOps me lt HS Rel where
  push : ∀ w xs (k : Int), HS w xs → xs.length < R → ok k → Calls Tryz.prog 116 #[me, .iface 3 (.int .i64 k)] w fun e w' => e = .returned (.tuple #[]) ∧ HS w' (xs ++ [k]) ∧ Rel w w'
/-- A heap of ints that may shrink. -/
structure HeapShrink (me : Value) (lt : Int → Int → Bool) (HS : World → List Int → Prop) (Rel : World → World → Prop) : Prop extends HeapOps me lt HS Rel where
  pop : ∀ w xs, HS w xs → 0 < xs.length → Calls Tryz.prog 115 #[me] w fun e w' => e = .returned (.iface 3 (.int .i64 (xs.getD (xs.length - 1) 0))) ∧ HS w' (xs.take (xs.length - 1)) ∧ Rel w w'

section
variable {me : Value} {lt : Int → Int → Bool} {R : Nat} {ok : Int → Prop} {HS : World → List Int → Prop} {Rel : World → World → Prop}

set_option maxRecDepth 100000 in
theorem push_any (H : HeapGrow me lt R ok HS Rel) (xs : List Int) (k : Int) (w : World) (hs : HS w xs) (hr : xs.length < R) (hk : ok k) :
    Calls Tryz.prog 55 #[.iface 88 me, .iface 3 (.int .i64 k)] w fun e w' => e = .returned (.tuple #[]) ∧ HS w' (pushL lt 0 xs k) ∧ Rel w w' := by
  have hsm := H.small _ _ hs
  have m1 := Tryz.hPush me
  have m2 := Tryz.hLen me
  have HH := Lib.hid H
  have HP := Lib.hid (H.push _ _ k hs hr hk)
  clear H hs
  go_enter Tryz.func55, Tryz.ntmps55
  go_wp2_with fail
  refine HP.out.mono ?_
  rintro _ w1 ⟨rfl, hs1, hr1⟩
  have hl1 := HH.out.len _ _ hs1
  rw [List.length_append, List.length_singleton] at hl1
  have HL := Lib.hid hl1
  have HS1 := Lib.hid hs1
  have HR1 := Lib.hid hr1
  clear hl1 hs1 hr1 HP
  go_wp2_with fail
  refine HL.out.mono ?_
  rintro _ w2 ⟨rfl, hs2, hr2⟩
  have hu := up_any HH.out.toHeapOps _ xs.length w2 hs2 (by simp)
  have HU := Lib.hid hu
  have HR2 := Lib.hid (HH.out.trans _ _ _ HR1.out hr2)
  clear hs2 hr2 hu HL HS1 HR1
  go_wp2_with (first | (go_at_call 71; (try rw [show ((xs.length + 1 : Nat) : Int) - 1 = (xs.length : Int) by omega]); refine HU.out.mono ?_; rintro _ w3 ⟨rfl, hs3, hr3⟩))
  go_end0
  exact ⟨rfl, hs3, HH.out.trans _ _ _ HR2.out hr3⟩

set_option maxRecDepth 100000 in
theorem pop_any (H : HeapShrink me lt HS Rel) (xs : List Int) (w : World) (hs : HS w xs) (h0 : 0 < xs.length) :
    Calls Tryz.prog 56 #[.iface 88 me] w fun e w' => e = .returned (.iface 3 (.int .i64 (xs.getD 0 0))) ∧ HS w' (popL lt 0 xs) ∧ Rel w w' := by
  have hsm := H.small _ _ hs
  have m1 := Tryz.hLen me
  have m2 := Tryz.hSwap me
  have m3 := Tryz.hPop me
  have HH := Lib.hid H
  obtain ⟨n, hn⟩ : ∃ n, xs.length - 1 = n := ⟨_, rfl⟩
  have hn' : xs.length = n + 1 := by omega
  obtain ⟨x, hx⟩ : ∃ x, xs.getD 0 0 = x := ⟨_, rfl⟩
  rw [hx]
  have hl := H.len _ _ hs
  rw [hn'] at hl
  have HL := Lib.hid hl
  clear H hs hl
  go_enter Tryz.func56, Tryz.ntmps56
  go_wp2_with fail
  refine HL.out.mono ?_
  rintro _ w1 ⟨rfl, hs1, hr1⟩
  have hw := HH.out.swap _ _ 0 n hs1 h0 (by omega)
  rw [show ((0 : Nat) : Int) = 0 from rfl] at hw
  have HW := Lib.hid hw
  have HR1 := Lib.hid hr1
  clear hs1 hr1 HL hw
  go_wp2_with fail
  refine HW.out.mono ?_
  rintro _ w2 ⟨rfl, hs2, hr2⟩
  have hd := down_any HH.out.toHeapOps _ 0 n w2 hs2 (by omega) (by rw [swapL_length]; omega)
  rw [show ((0 : Nat) : Int) = 0 from rfl] at hd
  have HD := Lib.hid hd
  have HR2 := Lib.hid (HH.out.trans _ _ _ HR1.out hr2)
  clear hs2 hr2 hd HW HR1
  go_wp2_with fail
  refine HD.out.mono ?_
  rintro _ w3 ⟨⟨b, rfl⟩, hs3, hr3⟩
  have hlen : (downL lt 0 (swapL 0 xs 0 n) 0 n).length = n + 1 := by rw [downL_length _ _ _ _ (Nat.le_refl _), swapL_length]; exact hn'
  have hlast : (downL lt 0 (swapL 0 xs 0 n) 0 n).getD n 0 = x := by
    rw [← hx]
    rw [downL_beyond _ _ _ _ (Nat.le_refl _) (by rw [swapL_length]; omega) _ (Nat.le_refl _), swapL_getD 0 xs _ _ _ h0 (by omega)]
    split
    · rename_i h; rw [h]
    · rw [if_pos rfl]
  have hp := HH.out.pop _ _ hs3 (by omega)
  rw [hlen, Nat.add_sub_cancel, hlast] at hp
  have HP := Lib.hid hp
  have HR3 := Lib.hid (HH.out.trans _ _ _ HR2.out hr3)
  clear hs3 hr3 hp hlen hlast HD HR2
  go_wp2_with fail
  refine HP.out.mono ?_
  rintro _ w4 ⟨rfl, hs4, hr4⟩
  go_wp2
  go_ret
  exact ⟨rfl, by unfold popL; rw [hn]; exact hs4, HH.out.trans _ _ _ HR3.out hr4⟩
end
end Go.Proofs.YtjnmppdohglcaaaGreatDoor
