/-
  The small functions of ledger by their contracts: mayHold, isClientShort.
-/
import Derived.Test.YtbneohglblkmeaaDoorLedPlain
import Derived.Test.YtbneohglblkmeaaDoorEntSmall
import Derived.Test.YtbneohglblkmeaaDoorChartIs
import Derived.Test.YtbneohglblkmeaaDoorChartClone
namespace Go.Proofs.YtbneohglblkmeaaDoor
open Go Go.RowKit
set_option linter.unusedVariables false

theorem isClient_any (A : Option Addr) (n cap : Nat) (k : Int) (w : World) : Calls Tryd.prog 39 #[.slice A n cap, .int .i64 k] w fun e w' => e = .returned (.bool (decide (9 ≤ k ∧ k < (n : Int)))) ∧ w = w' := by
  by_cases h : 0 ≤ k ∧ k < (n : Int)
  · by_cases h9 : 9 ≤ k
    · rw [decide_eq_true ⟨h9, h.2⟩]
      exact isClient_client A n cap k w h9 h.2
    · rw [decide_eq_false (by omega)]
      exact isClient_house A n cap k w h.1 (by omega) h.2
  · rw [decide_eq_false (by omega)]
    exact isClient_none A n cap k w h
theorem isClient_is (b : Bool) (A : Option Addr) (n cap : Nat) (k : Int) (w : World) (h : b = decide (9 ≤ k ∧ k < (n : Int))) : Calls Tryd.prog 39 #[.slice A n cap, .int .i64 k] w fun e w' => e = .returned (.bool b) ∧ w = w' := by
  subst h
  exact isClient_any A n cap k w
theorem amount_is (b : Bool) (x : Int) (w : World) (h : b = decide (1 ≤ x ∧ x ≤ 1099511627776)) : Calls Tryd.prog 30 #[.int .i64 x] w fun e w' => e = .returned (.bool b) ∧ w = w' := by
  subst h
  exact amount_any x w

set_option maxRecDepth 100000 in
theorem mayHold_any (A : Option Addr) (n cap : Nat) (k x : Int) (w : World) : Calls Tryd.prog 27 #[.slice A n cap, .int .i64 k, .int .i64 x] w fun e w' => e = .returned (errV (mayE n k x)) ∧ w = w' := by
  have HC := Lib.hid (fun b W h => isClient_is b A n cap k W h)
  have HA := Lib.hid (fun b W h => amount_is b x W h)
  by_cases h : 9 ≤ k ∧ k < (n : Int)
  · have h1 := decide_eq_true h
    by_cases hx : 1 ≤ x ∧ x ≤ 1099511627776
    · have h2 := decide_eq_true hx
      have hE : mayE n k x = 0 := by unfold mayE; rw [if_pos h, if_pos hx]
      rw [hE]
      have HC := Lib.hid (fun W => HC.out true W h1.symm)
      have HA := Lib.hid (fun W => HA.out true W h2.symm)
      clear h hx h1 h2 hE
      go_enter Tryd.func27, Tryd.ntmps27
      go_wp2_with (first
        | (go_at_call 39; refine (HC.out _).mono ?_; rintro e w1 ⟨rfl, rfl⟩)
        | (go_at_call 30; refine (HA.out _).mono ?_; rintro e w1 ⟨rfl, rfl⟩))
      go_ret
      exact ⟨rfl, rfl⟩
    · have h2 := decide_eq_false hx
      have hE : mayE n k x = 1 := by unfold mayE; rw [if_pos h, if_neg hx]
      rw [hE]
      have HC := Lib.hid (fun W => HC.out true W h1.symm)
      have HA := Lib.hid (fun W => HA.out false W h2.symm)
      clear h hx h1 h2 hE
      go_enter Tryd.func27, Tryd.ntmps27
      go_wp2_with (first
        | (go_at_call 39; refine (HC.out _).mono ?_; rintro e w1 ⟨rfl, rfl⟩)
        | (go_at_call 30; refine (HA.out _).mono ?_; rintro e w1 ⟨rfl, rfl⟩))
      go_ret
      exact ⟨rfl, rfl⟩
  · have h1 := decide_eq_false h
    have hE : mayE n k x = 2 := by unfold mayE; rw [if_neg h]
    rw [hE]
    have HC := Lib.hid (fun W => HC.out false W h1.symm)
    clear h h1 hE HA
    go_enter Tryd.func27, Tryd.ntmps27
    go_wp2_with (first
      | (go_at_call 39; refine (HC.out _).mono ?_; rintro e w1 ⟨rfl, rfl⟩))
    go_ret
    exact ⟨rfl, rfl⟩

set_option maxRecDepth 100000 in
set_option maxHeartbeats 4000000 in
theorem short_any (A : Option Addr) (n cap : Nat) (zs : List Ac) (w : World) (hl : zs.length = n) (hr : RdA w A zs) (hn : n ≤ 9223372036854775807) :
    Calls Tryd.prog 25 #[.slice A n cap] w fun e w' => e = .returned (.bool (shortB zs)) ∧ Below w.heap.size w w' := by
  have HR := Lib.hid hr
  have HL := Lib.hid hl
  obtain ⟨r, hres⟩ : ∃ r, shortB zs = r := ⟨_, rfl⟩
  rw [hres]
  have HRES := Lib.hid hres
  clear hr hl hres
  go_enter Tryd.func25, Tryd.ntmps25
  go_wp2
  go_loopw [7] (fun i wr => ∃ k : Nat, k ≤ n ∧ i = .int .i64 (k : Int) ∧ (9 ≤ k → shortGo (zs.drop k) = r) ∧ Below w.heap.size w wr) (fun i _ => n - (intOf i).toNat)
  case atStart => exact ⟨0, Nat.zero_le _, rfl, fun h => by omega, Below.refl _ _⟩
  case round =>
    obtain ⟨k, hk, rfl, hrest, hbel⟩ := hrel
    have HREST := Lib.hid hrest
    have HBEL := Lib.hid hbel
    have hsz := hbel.size
    clear hrest hbel
    by_cases hlt : k < n
    · obtain ⟨a, ha⟩ : ∃ a, zs[k]? = some a := ⟨_, List.getElem?_eq_getElem (by rw [HL.out]; exact hlt)⟩
      obtain ⟨ad, rfl, hat⟩ := (HR.out.below HBEL.out).at_ ha
      have HS := Lib.hid (shortGo_at ha)
      obtain ⟨c0, c1, c2⟩ := hat
      rw [add_next ad (k * 3) 1 (by omega)] at c1
      rw [add_next ad (k * 3) 2 (by omega)] at c2
      have HF := Lib.hid (fun W => free_any a W)
      obtain ⟨f, hf⟩ : ∃ f, wrap64 (a.bal - a.held) = f := ⟨_, rfl⟩
      rw [hf] at HF
      have hsa : shortA a = decide (f < 0) := by rw [← hf]; rfl
      rw [hsa] at HS
      obtain ⟨c, b, l⟩ := a
      dsimp only at c0 c1 c2 HF
      have HST := Lib.hid (fun h9 : k = 9 => (show shortGo (zs.drop k) = shortB zs by subst h9; rfl).trans HRES.out)
      clear ha hf hsa
      by_cases h9 : 9 ≤ k
      · have hcur : shortGo (zs.drop k) = r := HREST.out h9
        rw [HS.out] at hcur
        have HC := Lib.hid (fun W => isClient_is true (some ad) n cap (k : Int) W (decide_eq_true (by omega)).symm)
        by_cases hf : f < 0
        · rw [decide_eq_true hf] at hcur
          obtain rfl : r = true := by rw [← hcur]; rfl
          clear hcur
          go_wp2_with (first
            | (go_at_call 39; refine (HC.out _).mono ?_; rintro e w1 ⟨rfl, rfl⟩)
            | (go_at_call 28; refine (HF.out _).mono ?_; rintro e w1 ⟨rfl, hb1⟩))
          go_ret
          exact ⟨rfl, (HBEL.out.alloc hsz _).trans (hb1.mono (by simp; omega))⟩
        · rw [decide_eq_false hf, Bool.false_or] at hcur
          have HCUR := Lib.hid hcur
          clear hcur
          go_wp2_with (first
            | (go_at_call 39; refine (HC.out _).mono ?_; rintro e w1 ⟨rfl, rfl⟩)
            | (go_at_call 28; refine (HF.out _).mono ?_; rintro e w1 ⟨rfl, hb1⟩))
          go_roundw
          case rel => exact ⟨k + 1, by omega, by go_num, fun _ => HCUR.out, (HBEL.out.alloc hsz _).trans (hb1.mono (by simp; omega))⟩
          case measure => simp [intOf]; omega
      · have HC := Lib.hid (fun W => isClient_is false (some ad) n cap (k : Int) W (decide_eq_false (by omega)).symm)
        go_wp2_with (first
          | (go_at_call 39; refine (HC.out _).mono ?_; rintro e w1 ⟨rfl, rfl⟩))
        go_roundw
        case rel =>
          refine ⟨k + 1, by omega, by go_num, fun h => ?_, HBEL.out.alloc hsz _⟩
          rw [show k + 1 = 9 by omega]
          exact HRES.out
        case measure => simp [intOf]; omega
    · obtain rfl : k = n := by omega
      obtain rfl : r = false := by
        by_cases h9 : 9 ≤ k
        · rw [← HREST.out h9, shortGo_end (by rw [HL.out]; exact Nat.le_refl _)]
        · rw [← HRES.out]
          unfold shortB
          exact shortGo_end (by rw [HL.out]; omega)
      go_wp2
      go_ret
      exact ⟨rfl, HBEL.out⟩
end Go.Proofs.YtbneohglblkmeaaDoor
