/-
  The small functions of layer 15's law: an error as a reply; whether an account is a client's.
-/
import Derived.Test.YtjnmppdohglcaaaDoorGrE
import Derived.Test.YtjnmppdohglcaaaDoorGrD
import Derived.IntWalk
import Derived.WalkSpells
namespace Go.Proofs.YtjnmppdohglcaaaDoor
open Go Go.RowKit
set_option linter.unusedVariables false

set_option maxRecDepth 100000 in
theorem told_any (E : Int) (w : World) (hh : HasErr w) : Calls Tryd.prog 23 #[errV E] w fun e w' => e = .returned (.agg #[.int .i64 E, .int .i64 0]) ∧ Below w.heap.size w w' := by
  have HN := Lib.hid (fun W (hb : Below w.heap.size w W) => number_of E W (hh.below hb))
  obtain ⟨v, hv⟩ : ∃ v, errV E = v := ⟨_, rfl⟩
  rw [hv] at HN ⊢
  clear hv hh
  go_enter Tryd.func23, Tryd.ntmps23
  go_wp2_with fail
  refine (HN.out _ ((Below.refl _ _).alloc (Nat.le_refl _) _)).mono ?_
  rintro _ w1 ⟨rfl, hb1⟩
  have HB := Lib.hid ((Blk.new w 40 #[.int .i64 0, .int .i64 0]).below hb1 (by simp))
  have HBB := Lib.hid (((Below.refl w.heap.size w).alloc (Nat.le_refl _) (.cells #[.int .i64 0, .int .i64 0] 40)).trans (hb1.mono (by simp)))
  obtain ⟨c0, c1⟩ := (show _ ∧ _ from ⟨HB.out.cell 0 rfl, HB.out.cell 1 rfl⟩)
  obtain ⟨f0, f1⟩ := (show _ ∧ _ from ⟨HB.out.loose 0, HB.out.loose 1⟩)
  clear hb1
  go_wp2
  refine bodyPost_ret (results_cell_row (p := 2) (ty := 40) rfl _ _ w.heap.size _ _ (0, 0) _ rfl (rp_put HB.out rfl (.int .i64 E) (.int .i64 0)) Tryd.underlying40 rfl (by kernel_rfl)) rfl ?_
  exact ⟨rfl, rp_below HBB.out (Nat.le_refl _) _ _⟩

set_option maxRecDepth 100000 in
theorem client_any (w : World) (g : Nat) (vs : Array Value) (A : Option Addr) (n c : Nat) (k : Int) (h : Blk w g 36 vs) (h0 : vs[0]? = some (.slice A n c)) :
    Calls Tryd.prog 21 #[.int .i64 k, .pointer (some ⟨g, 0, none⟩)] w fun e w' => e = .returned (.bool (decide (isC n k))) ∧ w = w' := by
  have c0 := h.cell 0 h0
  clear h h0
  by_cases h9 : 9 ≤ k
  · have q1 : decide (8 < k) = true := decide_eq_true (by omega)
    by_cases hn : k < (n : Int)
    · rw [decide_eq_true (show isC n k from ⟨h9, hn⟩)]
      have q2 := decide_eq_true hn
      clear h9 hn
      go_enter Tryd.func21, Tryd.ntmps21
      go_wp2
      go_ret
      exact ⟨rfl, rfl⟩
    · rw [decide_eq_false (show ¬ isC n k from fun h => hn h.2)]
      have q2 := decide_eq_false hn
      clear h9 hn
      go_enter Tryd.func21, Tryd.ntmps21
      go_wp2
      go_ret
      exact ⟨rfl, rfl⟩
  · have q1 : decide (8 < k) = false := decide_eq_false (by omega)
    rw [decide_eq_false (show ¬ isC n k from fun h => h9 h.1)]
    clear h9
    go_enter Tryd.func21, Tryd.ntmps21
    go_wp2
    go_ret
    exact ⟨rfl, rfl⟩
end Go.Proofs.YtjnmppdohglcaaaDoor
