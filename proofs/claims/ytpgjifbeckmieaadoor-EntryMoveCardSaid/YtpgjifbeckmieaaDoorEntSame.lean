/-
  The law's Same by its contract: are these the same entries?
-/
import Derived.Test.YtpgjifbeckmieaaDoorEntPlain
import Derived.Test.YtpgjifbeckmieaaDoorChartWords
namespace Go.Proofs.YtpgjifbeckmieaaDoor
open Go Go.RowKit
set_option linter.unusedVariables false

theorem esame_drop {xs ys : List En} {k : Nat} {a b : En} (ha : xs[k]? = some a) (hb : ys[k]? = some b) : (xs.drop k = ys.drop k) ↔ (a = b ∧ xs.drop (k + 1) = ys.drop (k + 1)) := by
  obtain ⟨hx, rfl⟩ := List.getElem?_eq_some_iff.1 ha
  obtain ⟨hy, rfl⟩ := List.getElem?_eq_some_iff.1 hb
  rw [List.drop_eq_getElem_cons hx, List.drop_eq_getElem_cons hy, List.cons.injEq]

set_option maxRecDepth 100000 in
set_option maxHeartbeats 4000000 in
theorem esame_any (A B : Option Addr) (n m cap capb : Nat) (xs ys : List En) (w : World) (hx : xs.length = n) (hy : ys.length = m) (hrx : RdE w A xs) (hry : RdE w B ys) (hn : n ≤ 9223372036854775807) (hm : m ≤ 9223372036854775807) :
    Calls Tryd.prog 8 #[.slice A n cap, .slice B m capb] w fun e w' => e = .returned (.bool (decide (xs = ys))) ∧ Below w.heap.size w w' := by
  have HX := Lib.hid hrx
  have HY := Lib.hid hry
  have HLX := Lib.hid hx
  have HLY := Lib.hid hy
  obtain ⟨r, hres⟩ : ∃ r, decide (xs = ys) = r := ⟨_, rfl⟩
  rw [hres]
  have HRES := Lib.hid hres
  clear hrx hry hx hy hres
  by_cases hnm : n = m
  · subst hnm
    go_enter Tryd.func8, Tryd.ntmps8
    go_wp2
    go_loopw [13] (fun i wr => ∃ k : Nat, k ≤ n ∧ i = .int .i64 (k : Int) ∧ decide (xs.drop k = ys.drop k) = r ∧ Below w.heap.size w wr) (fun i _ => n - (intOf i).toNat)
    case atStart => exact ⟨0, Nat.zero_le _, rfl, HRES.out, Below.refl _ _⟩
    case round =>
      obtain ⟨k, hk, rfl, hrest, hbel⟩ := hrel
      have HREST := Lib.hid hrest
      have HBEL := Lib.hid hbel
      clear hrest hbel
      by_cases hlt : k < n
      · obtain ⟨a, ha⟩ : ∃ a, xs[k]? = some a := ⟨_, List.getElem?_eq_getElem (by rw [HLX.out]; exact hlt)⟩
        obtain ⟨b, hb⟩ : ∃ b, ys[k]? = some b := ⟨_, List.getElem?_eq_getElem (by rw [HLY.out]; exact hlt)⟩
        obtain ⟨ax, rfl, hax⟩ := (HX.out.below HBEL.out).at_ ha
        obtain ⟨ay, rfl, hay⟩ := (HY.out.below HBEL.out).at_ hb
        have HS := Lib.hid (esame_drop ha hb)
        clear ha hb
        obtain ⟨c0, c1⟩ := hax
        obtain ⟨d0, d1⟩ := hay
        rw [add_next _ (k * 2) 1 (by omega)] at c1 d1
        obtain ⟨ac, ab⟩ := a
        obtain ⟨bc, bb⟩ := b
        simp only at c0 c1 d0 d1
        by_cases e0 : ac = bc
        · subst e0
          by_cases e1 : ab = bb
          · subst e1
            have HN : Hid (decide (xs.drop (k + 1) = ys.drop (k + 1)) = r) := Lib.hid (by rw [← HREST.out]; exact decide_eq_decide.2 ⟨fun h => HS.out.2 ⟨rfl, h⟩, fun h => (HS.out.1 h).2⟩)
            go_wp2
            go_quiet (fail)
            go_wp2
            go_roundw
            case rel => exact ⟨k + 1, by omega, by go_num, HN.out, below_drewN HBEL.out _⟩
            case measure => simp [intOf]; omega
          · obtain rfl : r = false := by rw [← HREST.out]; exact decide_eq_false fun h => e1 (by have := (HS.out.1 h).1; injection this)
            have f2 := eqF e1
            go_wp2
            go_quiet (fail)
            go_wp2
            go_ret
            exact ⟨rfl, below_drewN HBEL.out _⟩
        · obtain rfl : r = false := by rw [← HREST.out]; exact decide_eq_false fun h => e0 (by have := (HS.out.1 h).1; injection this)
          have f2 := eqF e0
          go_wp2
          go_quiet (fail)
          go_wp2
          go_ret
          exact ⟨rfl, below_drewN HBEL.out _⟩
      · obtain rfl : k = n := by omega
        obtain rfl : r = true := by
          rw [← HREST.out]
          refine decide_eq_true ?_
          rw [List.drop_eq_nil_of_le (by rw [HLX.out]; omega), List.drop_eq_nil_of_le (by rw [HLY.out]; omega)]
        go_wp2
        go_ret
        exact ⟨rfl, HBEL.out⟩
  · obtain rfl : r = false := by rw [← HRES.out]; exact decide_eq_false fun h => hnm (by rw [← HLX.out, ← HLY.out, h])
    have f1 : ((n : Int) != (m : Int)) = true := by simpa using (show ¬ (n : Int) = (m : Int) by omega)
    have f2 : ¬ (n : Int) = (m : Int) := by omega
    go_enter Tryd.func8, Tryd.ntmps8
    go_wp2
    go_ret
    exact ⟨rfl, Below.refl _ _⟩
end Go.Proofs.YtpgjifbeckmieaaDoor
