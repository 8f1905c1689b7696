/-
  The law's same by its contract: of two that read alike.
-/
import Derived.Test.YtdepidemciigkaaWords
import Derived.Test.YtdepidemciigkaaSlices
import Derived.Test.YtdepidemciigkaaProg
import Derived.BigQuiet
import Derived.Deep.QuietTactic
import Derived.LoopTactic
import Derived.IntWalk
import Derived.WalkSpells
namespace Go.Proofs.Ytdepidemciigkaa
open Go Go.RowKit
set_option linter.unusedVariables false

set_option maxRecDepth 100000 in
set_option maxHeartbeats 1000000 in
theorem dsame_yes (A B : Option Addr) (n c d : Nat) (xs : List Int) (w : World) (ha : Rd .i64 w A n xs) (hb : Rd .i64 w B n xs) (hn : n ≤ 9223372036854775807) :
    Calls Try.prog 11 #[.slice A n c, .slice B n d] w (BoolRes w true) := by
  have HA := Lib.hid ha
  have HB := Lib.hid hb
  clear ha hb
  go_enter Try.func11, Try.ntmps11
  go_wp2
  go_loopw [13] (fun i wr => ∃ j : Nat, j ≤ n ∧ i = .int .i64 (j : Int) ∧ Below w.heap.size w wr) (fun i _ => n - (intOf i).toNat)
  case atStart => exact ⟨0, Nat.zero_le _, rfl, Below.refl _ _⟩
  case round =>
    obtain ⟨j, hj, rfl, hbel⟩ := hrel
    by_cases hjn : j < n
    · obtain ⟨a2, rfl, d2⟩ := (HA.out.below hbel).at_ hjn
      obtain ⟨a3, rfl, d3⟩ := (HB.out.below hbel).at_ hjn
      obtain ⟨x, hx⟩ : ∃ x, xs.getD j 0 = x := ⟨_, rfl⟩
      rw [hx] at d2 d3
      have HBEL := Lib.hid hbel
      clear hbel hx
      go_wp2
      go_quiet (fail)
      go_wp2
      go_roundw
      case rel => exact ⟨j + 1, by omega, by go_num, below_drewN HBEL.out _⟩
      case measure => simp [intOf]; omega
    · obtain rfl : j = n := by omega
      have HBEL := Lib.hid hbel
      clear hbel
      go_wp2
      go_ret
      exact ⟨rfl, HBEL.out⟩
end Go.Proofs.Ytdepidemciigkaa
