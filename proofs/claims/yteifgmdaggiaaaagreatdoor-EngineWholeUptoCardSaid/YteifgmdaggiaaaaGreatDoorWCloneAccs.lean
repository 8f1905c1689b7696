/-
  slices.Clone of accounts by its contract.
-/
import Derived.Test.YteifgmdaggiaaaaGreatDoorWGrB
import Derived.Test.YteifgmdaggiaaaaGreatDoorWOpsClone
import Derived.Test.YteifgmdaggiaaaaGreatDoorWGrA
namespace Go.Proofs.YteifgmdaggiaaaaGreatDoor
open Go Go.RowKit
set_option linter.unusedVariables false
theorem own_lit_acc (w : World) (base : Nat) (hb : base ≤ w.heap.size) : OwnA (w.alloc (.cells #[] 90)) base (.slice (some ⟨w.heap.size, 0, none⟩) 0 0) [] := by
 unfold OwnA
 have := World.ownsRow_lit w #[] 0 hb (Nat.zero_le _) (size := 3) (e := 90) (by simp)
 simpa [acells] using this
theorem eqn_accs (W : World) : (binOp .eql 30 (.slice none 0 0) (.slice none 0 0)).run Tryz.prog W = .ok (.bool true) W := by kernel_rfl
theorem eqs_accs (W : World) (ad : Addr) (n c : Nat) : (binOp .eql 30 (.slice (some ad) n c) (.slice none 0 0)).run Tryz.prog W = .ok (.bool false) W := by kernel_rfl
set_option maxRecDepth 100000 in
theorem clone_accs (A : Option Addr) (n c : Nat) (xs : List Ac) (w : World) (hl : xs.length = n) (hr : RdA w A xs) (hs : Sl A n c) (hn : n ≤ 1000000) :
  Calls Tryz.prog 77 #[.slice A n c] w fun e w' => ∃ v', e = .returned v' ∧ OwnA w' w.heap.size v' xs ∧ Below w.heap.size w w' := by
 cases A with
 | none =>
   obtain ⟨rfl, rfl⟩ := hs.nil rfl
   obtain rfl : xs = [] := List.eq_nil_of_length_eq_zero hl
   clear hr hs hl hn
   have e1 := eqn_accs w
   go_enter Tryz.func77, Tryz.ntmps77
   go_wp2
   go_ret
   exact ⟨_, rfl, OwnA.nil, Below.refl _ _⟩
 | some ad =>
   have HR := Lib.hid hr
   have HL := Lib.hid hl
   clear hr hl hs
   have e1 := eqs_accs w ad n c
   go_enter Tryz.func77, Tryz.ntmps77
   go_wp2_with (at_builtin; first
     | (refine wpList_append_accs _ rfl (.tmp 5) (.tmp 6) rfl w.heap.size _ [] xs rfl (own_lit_acc w w.heap.size (Nat.le_refl _)) ad n c rfl HL.out (HR.out.alloc _) (by simp) hn (by simp) ?_
        intro v1 w1 ho1 hg1
        have HO1 := Lib.hid ho1
        have HB1 := Lib.hid (below_grown ((Below.refl w.heap.size w).alloc (Nat.le_refl _) (.cells #[] 90)) hg1 (by simp) (Nat.le_refl _))
        clear ho1 hg1))
   go_ret
   exact ⟨_, rfl, HO1.out, HB1.out⟩
end Go.Proofs.YteifgmdaggiaaaaGreatDoor
