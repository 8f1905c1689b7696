/-
  How many accounts, and payments, a state has behind a request: one more at most.
-/
import Derived.Test.YtjnmppdohglcaaaDoorGrE
namespace Go.Proofs.YtjnmppdohglcaaaDoor
open Go Go.RowKit
set_option linter.unusedVariables false

theorem spend_len {zs : List Ac} {x : Int} {es : List En} (h : spendE zs x es = 0) : (spendL zs x es).length = zs.length := by
  unfold spendE at h
  unfold spendL
  cases es with
  | nil => simp at h
  | cons e r =>
    dsimp only at h ⊢
    split at h
    · rename_i h1
      rw [if_pos h1, post_len h, rel_len h1]
    · rename_i h1
      exact absurd h h1
theorem goL_len {zs : List Ac} {f t n : Int} (h : goE zs f t n = 0) : (goL zs f t n).length = zs.length := by
  unfold goE at h
  split at h
  · exact post_len h
  · rename_i h1
    exact absurd h h1
theorem accL_len {zs : List Ac} {p : Py} {op n : Int} (h : accE zs p op n = 0) : (accL zs p op n).length = zs.length := by
  unfold accE at h
  unfold accL
  split at h
  · rename_i h1
    rw [if_pos h1]
    exact rel_len h
  · rename_i h1
    rw [if_neg h1]
    split at h
    · split at h
      · rename_i h2
        rw [if_pos h2]
        exact spend_len h
      · rename_i h2
        rw [if_neg h2]
        split at h
        · rename_i h3
          rw [if_pos h3]
          exact post_len h
        · rename_i h3
          rw [if_neg h3]
          exact post_len h
    · rename_i h2
      exact absurd h h2
theorem opS_len (s : St) (r : Rq) : (opS s r).acs.length ≤ s.acs.length + 1 ∧ (opS s r).pys.length ≤ s.pys.length + 1 := by
  by_cases hE : opE s r = 0
  · rw [opS_yes hE]
    unfold opE at hE
    unfold opT
    split at hE
    · rename_i h0
      rw [if_pos h0]
      dsimp only
      rw [List.length_append, List.length_singleton]
      exact ⟨Nat.le_refl _, by omega⟩
    · rename_i h0
      rw [if_neg h0]
      split at hE
      · rename_i h1
        rw [if_pos h1]
        split at hE
        · dsimp only
          rw [goL_len hE]
          omega
        · omega
      · rename_i h1
        rw [if_neg h1]
        split at hE
        · rename_i h2
          rw [if_pos h2]
          split at hE
          · dsimp only
            rw [goL_len hE]
            omega
          · omega
        · rename_i h2
          rw [if_neg h2]
          split at hE
          · rename_i h3
            rw [if_pos h3]
            unfold authE at hE
            split at hE
            · split at hE
              · omega
              · split at hE
                · omega
                · dsimp only
                  rw [hold_len hE, List.length_append, List.length_singleton]
                  omega
            · omega
          · rename_i h3
            rw [if_neg h3]
            split at hE
            · unfold payOpE at hE
              split at hE
              · split at hE
                · dsimp only
                  rw [accL_len hE, List.length_set]
                  omega
                · rename_i h4
                  exact absurd hE h4
              · omega
            · omega
  · rw [opS_no hE]
    omega
end Go.Proofs.YtjnmppdohglcaaaDoor
