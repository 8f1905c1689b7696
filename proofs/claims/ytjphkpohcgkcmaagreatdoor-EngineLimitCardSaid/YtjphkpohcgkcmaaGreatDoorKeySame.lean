/-
  The law's Same by its contract, where both are the same.
-/
import Derived.Test.YtjphkpohcgkcmaaGreatDoorGrB
import Derived.LoopTactic
import Derived.IntWalk
import Derived.WalkSpells
import Derived.BigQuiet
import Derived.Deep.QuietTactic
namespace Go.Proofs.YtjphkpohcgkcmaaGreatDoor
open Go Go.RowKit
set_option linter.unusedVariables false

set_option maxRecDepth 100000 in
set_option maxHeartbeats 4000000 in
theorem ksame_yes (A B : Option Addr) (n cap capb : Nat) (ks : List Kn) (w : World) (hl : ks.length = n) (hrx : RdS known w A ks) (hry : RdS known w B ks) (hn : n ≤ 9223372036854775807) :
    Calls Tryz.prog 26 #[.slice A n cap, .slice B n capb] w (BoolRes w true) := by
  have HX := Lib.hid hrx
  have HY := Lib.hid hry
  have HL := Lib.hid hl
  clear hrx hry hl
  go_enter Tryz.func26, Tryz.ntmps26
  go_wp2
  go_loopw [13] (fun i wr => ∃ k : Nat, k ≤ n ∧ i = .int .i64 (k : Int) ∧ Below w.heap.size w wr) (fun i _ => n - (intOf i).toNat)
  case atStart => exact ⟨0, Nat.zero_le _, rfl, Below.refl _ _⟩
  case round =>
    obtain ⟨k, hk, rfl, hbel⟩ := hrel
    have HBEL := Lib.hid hbel
    clear hbel
    by_cases hlt : k < n
    · obtain ⟨a, ha⟩ : ∃ a, ks[k]? = some a := ⟨_, List.getElem?_eq_getElem (by rw [HL.out]; exact hlt)⟩
      obtain ⟨ax, rfl, hax⟩ := (HX.out.below HBEL.out).at_ ha
      obtain ⟨ay, rfl, hay⟩ := (HY.out.below HBEL.out).at_ ha
      obtain ⟨c0, c1, c2, c3, c4, c5, c6, c7, c8, c9⟩ := kn_cells hax
      obtain ⟨d0, d1, d2, d3, d4, d5, d6, d7, d8, d9⟩ := kn_cells hay
      clear ha hax hay
      obtain ⟨⟨key, op, ra, rb, amt, legs, til⟩, er, id, told⟩ := a
      dsimp only at c0 c1 c2 c3 c4 c5 c6 c7 c8 c9 d0 d1 d2 d3 d4 d5 d6 d7 d8 d9
      go_wp2
      go_quiet (fail)
      go_wp2
      go_roundw
      case rel => exact ⟨k + 1, by omega, by go_num, below_drewN HBEL.out _⟩
      case measure => simp [intOf]; omega
    · obtain rfl : k = n := by omega
      go_wp2
      go_ret
      exact ⟨rfl, HBEL.out⟩
end Go.Proofs.YtjphkpohcgkcmaaGreatDoor
