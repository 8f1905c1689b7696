/-
  As many accounts, and payments, as may be: plain words.
-/
import Derived.Test.YtjnmppdohglcaaaDoorGrE
import Derived.Test.YtjnmppdohglcaaaDoorGrG
namespace Go.Proofs.YtjnmppdohglcaaaDoor
open Go Go.RowKit
set_option linter.unusedVariables false

theorem Ok.new : Ok new0 where
  right := by decide
  sums := fun c hc => by
    rcases (show c = 0 ∨ c = 1 ∨ c = 2 by omega) with rfl | rfl | rfl <;> decide
  few := Nat.zero_le _
  pays := fun p hp => by cases hp
  held := fun k a ha => by
    have hk : k < 9 := (List.getElem?_eq_some_iff.1 ha).1
    have h := house_at k hk
    have e : some a = some ⟨(k : Int) / 3, 0, 0⟩ := ha.symm.trans h
    injection e with e
    subst e
    rfl
  now := ⟨Int.le_refl _, by decide⟩
/-- So many accounts of a currency. -/
def openK (c : Int) (k : Nat) : St := ⟨house ++ List.replicate k ⟨c, 0, 0⟩, [], 0⟩
theorem openK_len (c : Int) (k : Nat) : (openK c k).acs.length = 9 + k := by simp [openK, house]; omega
theorem openK_next {c : Int} {k : Nat} (hk : k < 55) : opE (openK c k) ⟨0, 0, c, 0, 0, 0, 0⟩ = 0 ∧ opI (openK c k) ⟨0, 0, c, 0, 0, 0, 0⟩ = 9 + (k : Int) ∧ opS (openK c k) ⟨0, 0, c, 0, 0, 0, 0⟩ = openK c (k + 1) := by
  have hl := openK_len c k
  have hE : opE (openK c k) ⟨0, 0, c, 0, 0, 0, 0⟩ = 0 := by unfold opE; dsimp only; rw [if_pos rfl, if_neg (by omega)]
  refine ⟨hE, ?_, ?_⟩
  · unfold opI; rw [if_pos hE]; dsimp only; rw [if_pos rfl, hl]; omega
  · rw [opS_yes hE]
    unfold opT
    dsimp only
    rw [if_pos rfl]
    unfold openK
    dsimp only
    rw [List.append_assoc, List.replicate_succ']
theorem openK_ok {c : Int} (hc : 0 ≤ c ∧ c < 3) : ∀ k, k ≤ 55 → Ok (openK c k)
  | 0, _ => by have h := Ok.new; unfold new0 at h; simpa [openK] using h
  | k + 1, hk => by
    have h := (openK_ok hc k (by omega)).do_ ⟨0, 0, c, 0, 0, 0, 0⟩ (fun _ => hc) (fun h => by cases h)
    rw [(openK_next (by omega)).2.2] at h
    exact h
theorem openK_full (c : Int) : opE (openK c 55) ⟨0, 0, 0, 0, 0, 0, 0⟩ = 7 := by
  unfold opE
  dsimp only
  rw [if_pos rfl, if_pos (by rw [openK_len]; exact Nat.le_refl _)]
/-- With a deposit. -/
def richM (c : Int) : St := opS (openK c 55) ⟨0, 1, 9, 0, 1000, 0, 0⟩
theorem rich_is {c : Int} (hc : 0 ≤ c ∧ c < 3) : opE (openK c 55) ⟨0, 1, 9, 0, 1000, 0, 0⟩ = 0 ∧ (richM c).acs.length = 64 ∧ (richM c).pys = [] ∧ (richM c).now = 0 ∧ acOf (richM c).acs 9 = ⟨c, 1000, 0⟩ := by
  rcases (show c = 0 ∨ c = 1 ∨ c = 2 by omega) with rfl | rfl | rfl
  · exact ⟨by kernel_rfl, by kernel_rfl, by kernel_rfl, by kernel_rfl, by kernel_rfl⟩
  · exact ⟨by kernel_rfl, by kernel_rfl, by kernel_rfl, by kernel_rfl, by kernel_rfl⟩
  · exact ⟨by kernel_rfl, by kernel_rfl, by kernel_rfl, by kernel_rfl, by kernel_rfl⟩
theorem rich_ok {c : Int} (hc : 0 ≤ c ∧ c < 3) : Ok (richM c) := (openK_ok hc 55 (Nat.le_refl _)).do_ _ (fun h => by cases h) (fun h => by cases h)
/-- With so many payments. -/
structure PayK (c : Int) (j : Nat) (s : St) : Prop where
  ok : Ok s
  len : s.acs.length = 64
  pays : s.pys.length = j
  now : s.now = 0
  nine : acOf s.acs 9 = ⟨c, 1000, 2 * (j : Int)⟩
theorem PayK.first {c : Int} (hc : 0 ≤ c ∧ c < 3) : PayK c 0 (richM c) := by
  obtain ⟨_, h1, h2, h3, h4⟩ := rich_is hc
  exact ⟨rich_ok hc, h1, by rw [h2]; rfl, h3, h4⟩
theorem PayK.next {c : Int} {j : Nat} {s : St} (h : PayK c j s) (hj : j < 64) {b : Int} (hb : 10 ≤ b ∧ b < 60) : opE s ⟨0, 3, 9, b, 2, 0, 5⟩ = 0 ∧ opI s ⟨0, 3, 9, b, 2, 0, 5⟩ = (j : Int) ∧ PayK c (j + 1) (opS s ⟨0, 3, 9, b, 2, 0, 5⟩) := by
  have hH : holdE s.acs 9 2 = 0 := by
    unfold holdE
    rw [h.len, show mayE 64 9 2 = 0 by decide, if_pos rfl, h.nine, if_neg (by dsimp only; simp only [wrap64]; omega)]
  have hA : authE s ⟨0, 3, 9, b, 2, 0, 5⟩ = 0 := by
    unfold authE isC
    dsimp only
    rw [if_pos (by rw [h.len]; omega), if_neg (by rw [h.now]; omega), if_neg (by rw [h.pays]; omega), hH]
  have hE : opE s ⟨0, 3, 9, b, 2, 0, 5⟩ = 0 := by
    unfold opE
    dsimp only
    rw [if_neg (by decide), if_neg (by decide), if_neg (by decide), if_pos rfl, hA]
  have hS : opS s ⟨0, 3, 9, b, 2, 0, 5⟩ = ⟨holdL s.acs 9 2, s.pys ++ [⟨9, b, 2, 0, 0, 0, 5, 0⟩], s.now⟩ := by
    rw [opS_yes hE]
    unfold opT
    dsimp only
    rw [if_neg (by decide), if_neg (by decide), if_neg (by decide), if_pos rfl]
  refine ⟨hE, ?_, h.ok.do_ _ (fun k => by cases k) (fun _ => by dsimp only; omega), ?_, ?_, ?_, ?_⟩
  · unfold opI; rw [if_pos hE]; dsimp only; rw [if_neg (by decide), if_pos rfl, h.pays]
  · rw [hS]; show (holdL s.acs 9 2).length = 64; rw [hold_len hH, h.len]
  · rw [hS]; show (s.pys ++ [_]).length = j + 1; rw [List.length_append, h.pays]; rfl
  · rw [hS]; exact h.now
  · rw [hS]
    show acOf (holdL s.acs 9 2) 9 = _
    unfold holdL heldAs
    rw [if_pos hH, h.nine]
    have hl : (9 : Int).toNat < s.acs.length := by rw [h.len]; decide
    rw [show (9 : Int) = ((9 : Nat) : Int) from rfl, acOf_at (q := 9) (a := ⟨c, 1000, wrap64 (2 * (j : Int) + 2)⟩) (by rw [Int.toNat_natCast, List.getElem?_set_self (by simpa using hl)])]
    rw [w64 (by omega) (by omega)]
    all_goals (congr 1; try omega)
theorem PayK.full {c : Int} {s : St} (h : PayK c 64 s) : opE s ⟨0, 3, 9, 10, 2, 0, 5⟩ = 7 := by
  unfold opE authE isC
  dsimp only
  rw [if_neg (by decide), if_neg (by decide), if_neg (by decide), if_pos rfl, if_pos (by rw [h.len]; omega), if_neg (by rw [h.now]; omega), if_pos (by rw [h.pays]; exact Nat.le_refl _)]
end Go.Proofs.YtjnmppdohglcaaaDoor
