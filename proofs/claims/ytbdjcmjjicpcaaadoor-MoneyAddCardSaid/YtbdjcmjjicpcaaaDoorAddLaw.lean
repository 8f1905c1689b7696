/-
  Proved: of every two ints the statement MoneyAdd is true: Add is the sum if both and it are from -2^50 to 2^50, else 0 and ErrOverflow (P1.1).
  Conditions: those of the card alone (errors.errorType is as the program's text lays it).
-/
import Derived.Test.YtbdjcmjjicpcaaaDoorLaid
import Derived.Test.YtbdjcmjjicpcaaaDoorMoney
import Derived.Test.YtbdjcmjjicpcaaaDoorTie
import Derived.Test.YtbdjcmjjicpcaaaDoorCards
import Derived.SevenTiedAt
namespace Go.Proofs.YtbdjcmjjicpcaaaDoor
open Go.ChangeShapes Go.WideShapes Go.RowKit

theorem addlaw_yes (a b : Int) (w : World) (hh : HasErr w) (h1 : -1125899906842624 ≤ a) (h2 : a ≤ 1125899906842624) (h3 : -1125899906842624 ≤ b) (h4 : b ≤ 1125899906842624) (h5 : -1125899906842624 ≤ a + b) (h6 : a + b ≤ 1125899906842624) :
    Calls Tryd.prog 3 #[.int .i64 a, .int .i64 b] w fun e w' => e = .returned (.bool true) ∧ Below w.heap.size w w' := by
  go_enter Tryd.func3, Tryd.ntmps3
  go_wp2_with fail
  refine (awake_ok _ hh).mono ?_
  rintro e w1 ⟨rfl, hb⟩
  go_wp2_with fail
  refine (add_ok _ _ _ h1 h2 h3 h4 h5 h6).mono ?_
  rintro e w' ⟨rfl, rfl⟩
  go_wp2
  go_ret
  exact ⟨rfl, hb⟩
theorem addlaw_no (a b : Int) (w : World) (hh : HasErr w) (h : ¬ (-1125899906842624 ≤ a ∧ a ≤ 1125899906842624 ∧ -1125899906842624 ≤ b ∧ b ≤ 1125899906842624 ∧ -1125899906842624 ≤ a + b ∧ a + b ≤ 1125899906842624)) :
    Calls Tryd.prog 3 #[.int .i64 a, .int .i64 b] w fun e w' => e = .returned (.bool true) ∧ Below w.heap.size w w' := by
  go_enter Tryd.func3, Tryd.ntmps3
  go_wp2_with fail
  refine (awake_ok _ hh).mono ?_
  rintro e w1 ⟨rfl, hb⟩
  have hh1 := hh.below hb
  go_wp2_with fail
  refine (add_no _ _ _ h).mono ?_
  rintro e w2 ⟨rfl, rfl⟩
  by_cases h1 : -1125899906842624 ≤ a
  · by_cases h2 : a ≤ 1125899906842624
    · by_cases h3 : -1125899906842624 ≤ b
      · by_cases h4 : b ≤ 1125899906842624
        · by_cases h5 : -1125899906842624 ≤ a + b
          · have h6 : ¬ a + b ≤ 1125899906842624 := fun h6 => h ⟨h1, h2, h3, h4, h5, h6⟩
            have h7 : decide (a + b ≤ 1125899906842624) = false := by simpa using h6
            clear h
            go_wp2_with (first | (go_at_call 12; refine (number_err _ _ hh1).mono ?_; rintro e w3 ⟨rfl, hb2⟩) | go_in)
            go_ret
            exact ⟨rfl, hb.trans (hb2.mono hb.size)⟩
          · clear h
            go_wp2_with (first | (go_at_call 12; refine (number_err _ _ hh1).mono ?_; rintro e w3 ⟨rfl, hb2⟩) | go_in)
            go_ret
            exact ⟨rfl, hb.trans (hb2.mono hb.size)⟩
        · clear h
          go_wp2_with (first | (go_at_call 12; refine (number_err _ _ hh1).mono ?_; rintro e w3 ⟨rfl, hb2⟩) | go_in)
          go_ret
          exact ⟨rfl, hb.trans (hb2.mono hb.size)⟩
      · clear h
        go_wp2_with (first | (go_at_call 12; refine (number_err _ _ hh1).mono ?_; rintro e w3 ⟨rfl, hb2⟩) | go_in)
        go_ret
        exact ⟨rfl, hb.trans (hb2.mono hb.size)⟩
    · clear h
      go_wp2_with (first | (go_at_call 12; refine (number_err _ _ hh1).mono ?_; rintro e w3 ⟨rfl, hb2⟩) | go_in)
      go_ret
      exact ⟨rfl, hb.trans (hb2.mono hb.size)⟩
  · clear h
    go_wp2_with (first | (go_at_call 12; refine (number_err _ _ hh1).mono ?_; rintro e w3 ⟨rfl, hb2⟩) | go_in)
    go_ret
    exact ⟨rfl, hb.trans (hb2.mono hb.size)⟩
theorem addlaw_walk (a b : Int) (w : World) (hh : HasErr w) :
    Calls Tryd.prog 3 #[.int .i64 a, .int .i64 b] w fun e w' => e = .returned (.bool true) ∧ Below w.heap.size w w' := by
  by_cases h : -1125899906842624 ≤ a ∧ a ≤ 1125899906842624 ∧ -1125899906842624 ≤ b ∧ b ≤ 1125899906842624 ∧ -1125899906842624 ≤ a + b ∧ a + b ≤ 1125899906842624
  · exact addlaw_yes a b w hh h.1 h.2.1 h.2.2.1 h.2.2.2.1 h.2.2.2.2.1 h.2.2.2.2.2
  · exact addlaw_no a b w hh h

set_option maxRecDepth 100000 in
theorem addlaw_lifted (os : Os) (started : os.Started) (H : Type) (enc : TypeId × Value → H) :
    ReturnsInHanded {} Tryd.checked os 3 .any (fun w args => (Rows.moneyAddSpec.pre enc Tryd.prog Tryd.f3 [] false w args ∧ laidMetH Tryd.prog lst w) ∧ sizedMet enc Tryd.prog Tryd.f3 (OpenSpec.ofChange Rows.moneyAddSpec) false w args)
      (Rows.moneyAddSpec.post enc Tryd.prog Tryd.f3 false true false false) := by
  refine returnsInHanded_of_change_and (C := Tryd.checked) (X := fun w _ => laidMetH Tryd.prog lst w) (fun _ _ _ hh h => h.of_heap hh) Tryd.own started (by kernel_rfl) Tryd.func3
    (ChangeSpec.witness_at (enc := enc) (C := Tryd.checked) (os := os) (X := fun w _ => laidMetH Tryd.prog lst w) false (laidWorld os) #[.int .i64 0, .int .i64 0] 8 rfl (by kernel_rfl) (by kernel_rfl) (by kernel_rfl) (by kernel_rfl) (by kernel_rfl) (laidWorld_met os _)) ?_
  intro W base args ds gs before hval0 hW _ _ hL _
  have hval : ∀ (j : Nat) t v, Tryd.f3.params[j]? = some t → args[j]? = some v → Value.okWide Tryd.prog W .any base t v := hval0
  have hW' := hW
  obtain ⟨p, q, hA0, hV, rfl, hfz, hnd⟩ := hW
  have hA : DataW.TrodAll enc Tryd.prog W 0 (fun _ => true) true Tryd.f3.params.toList args.toList ds p := hA0
  rw [Tryd.params3] at hA hval
  obtain ⟨v0, vs0, d0, ds0, p0, q0, hargs, rfl, rfl, h0, r0⟩ := trodAll_cons hA
  obtain ⟨v1, vs1, d1, ds1, p1, q1, rfl, rfl, rfl, h1, r1⟩ := trodAll_cons r0
  obtain ⟨rfl, rfl, rfl⟩ := trodAll_nil r1
  obtain rfl : args = #[v0, v1] := by cases args; simp_all
  obtain ⟨rfl, rfl⟩ := trodVars_none hV
  obtain ⟨a0, rfl, rfl, rfl, w0⟩ := open_int Tryd.underlying3 (hval 0 3 v0 rfl rfl) h0
  obtain ⟨a1, rfl, rfl, rfl, w1⟩ := open_int Tryd.underlying3 (hval 1 3 v1 rfl rfl) h1
  clear hA0 hval0
  simp only [List.append_nil] at hW'
  have hh := hasErr_of_laid hL
  refine (addlaw_walk a0 a1 W hh).mono fun e W' ⟨he, hg⟩ => ?_
  subst he
  exact ⟨_, rfl, post_of_below (pa := []) (pv := []) hW' (fun _ _ _ => (trodAll_cons_mk (shut_bool Tryd.underlying4 _) trodAll_mk0)) (fun sp _ => (trodAll_cons_mk (shut_int Tryd.underlying3 w0) (trodAll_cons_mk (shut_int Tryd.underlying3 w1) trodAll_mk0))) (fun _ _ => rfl) rfl hg⟩

theorem addlaw_row : Rows.MoneyAddSaid :=
  OpenClaim.holds_of_wide 3 Tryd.f3 rfl rfl rfl rfl rfl rfl rfl ⟨rfl, rfl, rfl, rfl, rfl⟩ rfl rfl rfl rfl rfl (by kernel_rfl) Tryd.func3 (by kernel_rfl)
    (of_decide_eq_true (by kernel_rfl)) (by unfold Func.isWrapper; rw [if_neg (of_decide_eq_false (by kernel_rfl))]; exact ⟨rfl, rfl⟩)
    (fun os started H enc _ => addlaw_lifted os started H enc)

theorem addlaw_card : Rows.MoneyAddCardSaid :=
  Claim7.holds_tied_plain_at .later [] [.handle] true Rows.moneyAddCard.stood.harness true
    addlaw_row (fun _ h => by cases h) (by kernel_rfl) (fun _ h => by cases h) moneyAdd_row_tie rfl ⟨rfl, rfl⟩ (by kernel_rfl) rfl
    (fun f fn hf hfn => by
      obtain rfl : f = 3 := Option.some.inj ((show Tryd.prog.funcNamed "hawala/hawalalaw01.MoneyAdd" = some 3 by kernel_rfl).symm.trans hf) |>.symm
      obtain rfl : fn = Tryd.f3 := (Option.some.inj (Tryd.func3.symm.trans hfn)).symm
      exact ⟨by kernel_rfl, fun j t ht => by
        rw [Tryd.params3] at ht
        have h3 : t = 3 := by
          rcases j with _ | _ | j
          · simpa using ht.symm
          · simpa using ht.symm
          · simp at ht
        subst h3
        exact (show Tryd.prog.wantsStandIn 3 = false by kernel_rfl)⟩)
    (by kernel_rfl)
#print axioms addlaw_card
end Go.Proofs.YtbdjcmjjicpcaaaDoor
