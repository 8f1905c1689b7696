/-
  The small functions of chart by their contracts; New, Of, IsClient, Number.
-/
import Derived.Test.YtpcpocgagfpbhaaAccPlain
import Derived.WalkKit
import Derived.LoopTactic
import Derived.BigQuiet
import Derived.Deep.QuietTactic
import Derived.IntWalk
import Derived.WalkSpells
namespace Go.Proofs.Ytpcpocgagfpbhaa
open Go Go.RowKit
set_option linter.unusedVariables false

theorem quiet_same {P : Program} {f : FuncId} {args : Array Value} {w : World} {n : Nat} {v : Value}
    (h : Calls P f args (w.drewN n) fun e w' => e = .returned v ∧ w.drewN n = w') : Calls P f args (w.drewN n) fun e w'' => e = .returned v ∧ ∃ m, w'' = w.drewN m :=
  h.mono fun _ _ ⟨he, hm⟩ => ⟨he, n, hm.symm⟩
theorem below_drewN {B : Nat} {a w : World} (h : Below B a w) (n : Nat) : Below B a (w.drewN n) := ⟨h.os, h.tape, h.output, h.size, h.block⟩
theorem eqT {x y : Int} (h : x = y) : (x == y) = true := by simp [h]
theorem eqF {x y : Int} (h : ¬ x = y) : (x == y) = false := by simp [h]

theorem isCur_any (c : Int) (w : World) : Calls Try.prog 21 #[.int .i64 c] w fun e w' => e = .returned (.bool (decide (0 ≤ c ∧ c < 3))) ∧ w = w' := by
  by_cases h1 : 0 ≤ c
  · by_cases h2 : c < 3
    · have e : decide (0 ≤ c ∧ c < 3) = true := decide_eq_true ⟨h1, h2⟩
      rw [e]
      clear e
      go_enter Try.func21, Try.ntmps21
      go_wp2
      go_ret
      exact ⟨rfl, rfl⟩
    · have e : decide (0 ≤ c ∧ c < 3) = false := decide_eq_false fun h => h2 h.2
      rw [e]
      clear e
      go_enter Try.func21, Try.ntmps21
      go_wp2
      go_ret
      exact ⟨rfl, rfl⟩
  · have e : decide (0 ≤ c ∧ c < 3) = false := decide_eq_false fun h => h1 h.1
    rw [e]
    clear e
    go_enter Try.func21, Try.ntmps21
    go_wp2
    go_ret
    exact ⟨rfl, rfl⟩

theorem isBal_any (c : Int) (w : World) : Calls Try.prog 22 #[.int .i64 c] w fun e w' => e = .returned (.bool (decide (-1125899906842624 ≤ c ∧ c ≤ 1125899906842624))) ∧ w = w' := by
  by_cases h1 : -1125899906842624 ≤ c
  · by_cases h2 : c ≤ 1125899906842624
    · have e : decide (-1125899906842624 ≤ c ∧ c ≤ 1125899906842624) = true := decide_eq_true ⟨h1, h2⟩
      rw [e]
      clear e
      go_enter Try.func22, Try.ntmps22
      go_wp2
      go_ret
      exact ⟨rfl, rfl⟩
    · have e : decide (-1125899906842624 ≤ c ∧ c ≤ 1125899906842624) = false := decide_eq_false fun h => h2 h.2
      rw [e]
      clear e
      go_enter Try.func22, Try.ntmps22
      go_wp2
      go_ret
      exact ⟨rfl, rfl⟩
  · have e : decide (-1125899906842624 ≤ c ∧ c ≤ 1125899906842624) = false := decide_eq_false fun h => h1 h.1
    rw [e]
    clear e
    go_enter Try.func22, Try.ntmps22
    go_wp2
    go_ret
    exact ⟨rfl, rfl⟩

theorem houseCur_any (k : Nat) (hk : k ≤ 1000000) (w : World) : Calls Try.prog 25 #[.int .i64 (k : Int)] w fun e w' => e = .returned (.int .i64 ((k : Int) / 3)) ∧ w = w' := by
  go_enter Try.func25, Try.ntmps25
  go_wp2
  go_ret
  exact ⟨rfl, rfl⟩

theorem isHouse_any (a : Ac) (k : Nat) (hk : k ≤ 1000000) (w : World) :
    Calls Try.prog 23 #[.agg #[.int .i64 a.cur, .int .i64 a.bal, .int .i64 a.held], .int .i64 (k : Int)] w fun e w' => e = .returned (.bool (decide (a.held = 0 ∧ a.cur = (k : Int) / 3))) ∧ Below w.heap.size w w' := by
  obtain ⟨c, b, l⟩ := a
  obtain ⟨q, hq⟩ : ∃ q : Int, (k : Int) / 3 = q := ⟨_, rfl⟩
  have HC := Lib.hid (fun W => houseCur_any k hk W)
  rw [hq] at HC ⊢
  clear hq
  dsimp only
  by_cases h1 : c = q
  · have e1 := eqT h1
    by_cases h2 : l = 0
    · have e2 := eqT h2
      have e : decide (l = 0 ∧ c = q) = true := decide_eq_true ⟨h2, h1⟩
      rw [e]
      clear e
      subst h1 h2
      go_enter Try.func23, Try.ntmps23
      go_wp2
      go_quiet (first | (go_at_call 25; exact quiet_same (HC.out _)))
      go_wp2
      go_ret
      exact ⟨rfl, below_drewN ((Below.refl _ _).alloc (Nat.le_refl _) _) _⟩
    · have e2 := eqF h2
      have e : decide (l = 0 ∧ c = q) = false := decide_eq_false fun h => h2 h.1
      rw [e]
      clear e h2
      subst h1
      go_enter Try.func23, Try.ntmps23
      go_wp2
      go_quiet (first | (go_at_call 25; exact quiet_same (HC.out _)))
      go_wp2
      go_ret
      exact ⟨rfl, below_drewN ((Below.refl _ _).alloc (Nat.le_refl _) _) _⟩
  · have e1 := eqF h1
    have e : decide (l = 0 ∧ c = q) = false := decide_eq_false fun h => h1 h.2
    rw [e]
    clear e h1
    go_enter Try.func23, Try.ntmps23
    go_wp2
    go_quiet (first | (go_at_call 25; exact quiet_same (HC.out _)))
    go_wp2
    go_ret
    exact ⟨rfl, below_drewN ((Below.refl _ _).alloc (Nat.le_refl _) _) _⟩

theorem isHeld_any (a : Ac) (w : World) :
    Calls Try.prog 24 #[.agg #[.int .i64 a.cur, .int .i64 a.bal, .int .i64 a.held]] w fun e w' => e = .returned (.bool (decide (0 ≤ a.held ∧ a.held ≤ a.bal))) ∧ Below w.heap.size w w' := by
  obtain ⟨c, b, l⟩ := a
  dsimp only
  by_cases h1 : 0 ≤ l
  · by_cases h2 : l ≤ b
    · have e : decide (0 ≤ l ∧ l ≤ b) = true := decide_eq_true ⟨h1, h2⟩
      rw [e]
      clear e
      go_enter Try.func24, Try.ntmps24
      go_wp2
      go_ret
      exact ⟨rfl, (Below.refl _ _).alloc (Nat.le_refl _) _⟩
    · have e : decide (0 ≤ l ∧ l ≤ b) = false := decide_eq_false fun h => h2 h.2
      rw [e]
      clear e
      go_enter Try.func24, Try.ntmps24
      go_wp2
      go_ret
      exact ⟨rfl, (Below.refl _ _).alloc (Nat.le_refl _) _⟩
  · have e : decide (0 ≤ l ∧ l ≤ b) = false := decide_eq_false fun h => h1 h.1
    rw [e]
    clear e
    go_enter Try.func24, Try.ntmps24
    go_wp2
    go_ret
    exact ⟨rfl, (Below.refl _ _).alloc (Nat.le_refl _) _⟩

theorem new_any (w : World) : Calls Try.prog 17 #[] w fun e w' => ∃ v, e = .returned v ∧ OwnA w' w.heap.size v house ∧ Below w.heap.size w w' := by
  have hmk := run_make_nine
  have ho := own_made_acc w 9 w.heap.size (by simp only [maxLen]; omega) (Nat.le_refl _)
  have HO := Lib.hid ho
  have HB := Lib.hid ((Below.refl w.heap.size w).alloc (Nat.le_refl _) (.cells (madeCells #[.int .i64 0, .int .i64 0, .int .i64 0] (9 * 3)) 27))
  have hz : (w.alloc (.cells (madeCells #[.int .i64 0, .int .i64 0, .int .i64 0] (9 * 3)) 27)).heap.size = w.heap.size + 1 := by simp
  clear ho
  go_enter Try.func17, Try.ntmps17
  go_wp2
  clear hmk
  generalize (w.alloc (.cells (madeCells #[.int .i64 0, .int .i64 0, .int .i64 0] (9 * 3)) 27)) = w0 at *
  go_loopw [6] (fun i wr => ∃ k : Nat, k ≤ 9 ∧ i = .int .i64 (k : Int) ∧ OwnA wr w.heap.size (.slice (some ⟨w.heap.size, 0, none⟩) 9 9) (houseTo k) ∧ Below w.heap.size w wr) (fun i _ => 9 - (intOf i).toNat)
  case atStart => exact ⟨0, Nat.zero_le _, rfl, HO.out, HB.out⟩
  case round =>
    obtain ⟨k, hk, rfl, hown, hbel⟩ := hrel
    by_cases hlt : k < 9
    · have hat := hown.at_ (houseTo_at k hlt)
      obtain ⟨c0, c1, c2⟩ := hat
      have hf := hown.unfrozen (houseTo_len k hk).symm (k * 3)
      have hset := (hown.set (houseTo_len k hk).symm (houseTo_at k hlt) ((k : Int) / 3)).1
      rw [houseTo_next k hlt] at hset
      have HSET := Lib.hid hset
      have HBEL := Lib.hid hbel
      clear hown hbel hset
      go_wp2_with (first | (go_at_call 25; refine (houseCur_any k (by omega) _).mono ?_; rintro e w1 ⟨rfl, rfl⟩))
      go_roundw
      case rel => exact ⟨k + 1, by omega, by go_num, HSET.out, HBEL.out.setCell (Nat.le_refl _) _⟩
      case measure => simp [intOf]; omega
    · obtain rfl : k = 9 := by omega
      have HOWN := Lib.hid hown
      have HBEL := Lib.hid hbel
      clear hown hbel
      go_wp2
      go_ret
      exact ⟨_, rfl, HOWN.out, HBEL.out⟩
end Go.Proofs.Ytpcpocgagfpbhaa
