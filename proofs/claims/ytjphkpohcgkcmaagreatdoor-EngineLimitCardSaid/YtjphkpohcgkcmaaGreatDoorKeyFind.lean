/-
  keys.Find by its contract.
-/
import Derived.Test.YtjphkpohcgkcmaaGreatDoorGrB
import Derived.LoopTactic
import Derived.IntWalk
import Derived.WalkSpells
namespace Go.Proofs.YtjphkpohcgkcmaaGreatDoor
open Go Go.RowKit
set_option linter.unusedVariables false

set_option maxRecDepth 100000 in
set_option maxHeartbeats 1000000 in
theorem find_any (A : Option Addr) (n cap : Nat) (ks : List Kn) (key : Int) (w : World) (hl : ks.length = n) (hr : RdS known w A ks) (hn : n ≤ 9223372036854775807) :
    Calls Tryz.prog 44 #[.slice A n cap, .int .i64 key] w fun e w' => e = .returned (.int .i64 (fi (findN ks key))) ∧ Below w.heap.size w w' := by
  have HR := Lib.hid hr
  have HL := Lib.hid hl
  obtain ⟨res, hres⟩ : ∃ res, fi (findN ks key) = res := ⟨_, rfl⟩
  rw [hres]
  have HRES := Lib.hid hres
  clear hr hl hres
  go_enter Tryz.func44, Tryz.ntmps44
  go_wp2
  go_loopw [9] (fun i wr => ∃ k : Nat, k ≤ n ∧ i = .int .i64 (k : Int) ∧ (∀ (j : Nat) a, j < k → ks[j]? = some a → a.rq.key ≠ key) ∧ Below w.heap.size w wr) (fun i _ => n - (intOf i).toNat)
  case atStart => exact ⟨0, Nat.zero_le _, rfl, fun j a h => absurd h (by omega), Below.refl _ _⟩
  case round =>
    obtain ⟨k, hk, rfl, hrest, hbel⟩ := hrel
    have HREST := Lib.hid hrest
    have HBEL := Lib.hid hbel
    have hsz := hbel.size
    clear hrest hbel
    by_cases hlt : k < n
    · obtain ⟨a, ha⟩ : ∃ a, ks[k]? = some a := ⟨_, List.getElem?_eq_getElem (by rw [HL.out]; exact hlt)⟩
      obtain ⟨ad, rfl, hat⟩ := (HR.out.below HBEL.out).at_ ha
      obtain ⟨c0, c1, c2, c3, c4, c5, c6, c7, c8, c9⟩ := kn_cells hat
      have HA := Lib.hid ha
      clear ha hat
      obtain ⟨⟨key', op, ra, rb, amt, legs, til⟩, er, id, told⟩ := a
      dsimp only at c0 c1 c2 c3 c4 c5 c6 c7 c8 c9
      by_cases h0 : key' = key
      · obtain rfl : res = (k : Int) := by rw [← HRES.out, find_some.2 ⟨⟨_, HA.out, h0⟩, HREST.out⟩]; rfl
        have b0 := eqT h0
        clear h0
        go_wp2
        go_ret
        exact ⟨rfl, HBEL.out.alloc hsz _⟩
      · have b0 := eqF h0
        have HN := Lib.hid (show ∀ (j : Nat) a, j < k + 1 → ks[j]? = some a → a.rq.key ≠ key from fun j a hj ha => by
          by_cases hjk : j < k
          · exact HREST.out j a hjk ha
          · obtain rfl : j = k := by omega
            rw [HA.out] at ha
            injection ha with ha
            subst ha
            exact h0)
        clear h0
        go_wp2
        go_roundw
        case rel => exact ⟨k + 1, by omega, by go_num, HN.out, HBEL.out.alloc hsz _⟩
        case measure => simp [intOf]; omega
    · obtain rfl : k = n := by omega
      obtain rfl : res = -1 := by
        rw [← HRES.out, find_none.2 fun j a ha => HREST.out j a (by have := (List.getElem?_eq_some_iff.1 ha).1; rw [HL.out] at this; exact this) ha]; rfl
      go_wp2
      go_ret
      exact ⟨rfl, HBEL.out⟩
end Go.Proofs.YtjphkpohcgkcmaaGreatDoor
