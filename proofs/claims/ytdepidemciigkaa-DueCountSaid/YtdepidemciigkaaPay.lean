/-
  Payments: the plain words: eight ints, what is left, what may go back, what an op makes of one.
-/
import Derived.Test.YtdepidemciigkaaWords
namespace Go.Proofs.Ytdepidemciigkaa
open Go Go.RowKit

/-- A payment's ints, in the order of its fields. -/
structure Py where
  frm : Int
  dst : Int
  aut : Int
  cap : Int
  ref : Int
  chg : Int
  til : Int
  stg : Int
deriving DecidableEq

def Py.val (p : Py) : Value := .agg #[.int .i64 p.frm, .int .i64 p.dst, .int .i64 p.aut, .int .i64 p.cap, .int .i64 p.ref, .int .i64 p.chg, .int .i64 p.til, .int .i64 p.stg]
def Py.zero : Py := ⟨0, 0, 0, 0, 0, 0, 0, 0⟩
def in64 (x : Int) : Prop := -9223372036854775808 ≤ x ∧ x ≤ 9223372036854775807
def Py.fits (p : Py) : Prop := in64 p.frm ∧ in64 p.dst ∧ in64 p.aut ∧ in64 p.cap ∧ in64 p.ref ∧ in64 p.chg ∧ in64 p.til ∧ in64 p.stg

/-- What is left of a payment, and what of it may go back. -/
def leftP (p : Py) : Int := if p.stg = 0 then wrap64 (p.aut - p.cap) else 0
def gaveP (p : Py) : Int := wrap64 (wrap64 (p.cap - p.ref) - p.chg)
/-- What is wrong with an amount of which there is no more than m. -/
def excE (n m : Int) : Int := if n < 1 then 1 else if m < n then 6 else 0
/-- What is wrong with an op: the error's number. -/
def payE (p : Py) (op n : Int) : Int :=
  if op = 4 then excE n (leftP p) else if op = 5 then (if p.stg = 0 then 0 else 6) else if op = 6 then excE n (gaveP p) else if op = 7 then excE n (gaveP p) else 13
/-- What an op makes of a payment, if nothing is wrong. -/
def payP (p : Py) (op n : Int) : Py :=
  if op = 4 then ⟨p.frm, p.dst, p.aut, wrap64 (p.cap + n), p.ref, p.chg, p.til, if wrap64 (p.cap + n) = p.aut then 1 else p.stg⟩
  else if op = 5 then ⟨p.frm, p.dst, p.aut, p.cap, p.ref, p.chg, p.til, 1⟩
  else if op = 6 then ⟨p.frm, p.dst, p.aut, p.cap, wrap64 (p.ref + n), p.chg, p.til, p.stg⟩
  else if op = 7 then ⟨p.frm, p.dst, p.aut, p.cap, p.ref, wrap64 (p.chg + n), p.til, p.stg⟩
  else p
/-- What an op answers: the payment, zero where something is wrong. -/
def payR (p : Py) (op n : Int) : Py := if payE p op n = 0 then payP p op n else Py.zero

/-- What went back. -/
def backOk (p : Py) : Prop := 0 ≤ p.ref ∧ 0 ≤ p.chg ∧ p.ref + p.chg ≤ p.cap
instance (p : Py) : Decidable (backOk p) := by unfold backOk; exact inferInstance
/-- Which payments may be. -/
def Py.right (p : Py) : Prop := (1 ≤ p.aut ∧ p.aut ≤ 1099511627776) ∧ (0 ≤ p.cap ∧ p.cap ≤ p.aut) ∧ backOk p ∧ (0 ≤ p.til ∧ p.til ≤ 1073741824) ∧ (p.stg = 0 ∨ p.stg = 1)
instance (p : Py) : Decidable p.right := by unfold Py.right; exact inferInstance

theorem Py.zero_fits : Py.zero.fits := by unfold Py.fits Py.zero in64; simp
theorem w64 {x : Int} (h1 : -9223372036854775808 ≤ x) (h2 : x ≤ 9223372036854775807) : wrap64 x = x := by simp only [wrap64]; omega

theorem Py.right.left {p : Py} (h : p.right) : leftP p = if p.stg = 0 then p.aut - p.cap else 0 := by
  unfold Py.right backOk at h
  unfold leftP
  rw [w64 (by omega) (by omega)]
theorem Py.right.gave {p : Py} (h : p.right) : gaveP p = p.cap - p.ref - p.chg := by
  unfold Py.right backOk at h
  unfold gaveP
  rw [w64 (x := p.cap - p.ref) (by omega) (by omega), w64 (by omega) (by omega)]

theorem excE_zero {n m : Int} (h : excE n m = 0) : 1 ≤ n ∧ n ≤ m := by
  unfold excE at h
  split at h
  · omega
  · split at h <;> omega

/-- A right payment stays right, and nothing that was captured or went back becomes less. -/
theorem Py.right.stays {p : Py} (h : p.right) {op n : Int} (he : payE p op n = 0) : (payP p op n).right ∧ p.cap ≤ (payP p op n).cap ∧ p.ref ≤ (payP p op n).ref ∧ p.chg ≤ (payP p op n).chg ∧ (payP p op n).aut = p.aut ∧ (p.stg = 1 → (payP p op n).stg = 1) := by
  have hl := h.left
  have hg := h.gave
  unfold payE at he
  rw [hl, hg] at he
  obtain ⟨f, d, a, c, r, g, t, s⟩ := p
  unfold Py.right backOk at h ⊢
  unfold payP
  dsimp only at h he ⊢
  by_cases h4 : op = 4
  · rw [if_pos h4] at he ⊢
    obtain ⟨h1, h2⟩ := excE_zero he
    by_cases hs : s = 0
    · rw [if_pos hs] at h2
      rw [w64 (by omega) (by omega)]
      dsimp only
      have hq : ((if c + n = a then 1 else s) = 1 ∨ (if c + n = a then 1 else s) = s) := by split <;> simp
      obtain ⟨q, hq'⟩ : ∃ q, (if c + n = a then 1 else s) = q := ⟨_, rfl⟩
      rw [hq'] at hq ⊢
      omega
    · rw [if_neg hs] at h2
      omega
  · rw [if_neg h4] at he ⊢
    by_cases h5 : op = 5
    · rw [if_pos h5] at he ⊢
      dsimp only
      omega
    · rw [if_neg h5] at he ⊢
      by_cases h6 : op = 6
      · rw [if_pos h6] at he ⊢
        obtain ⟨h1, h2⟩ := excE_zero he
        rw [w64 (by omega) (by omega)]
        dsimp only
        omega
      · rw [if_neg h6] at he ⊢
        by_cases h7 : op = 7
        · rw [if_pos h7] at he ⊢
          obtain ⟨h1, h2⟩ := excE_zero he
          rw [w64 (by omega) (by omega)]
          dsimp only
          omega
        · rw [if_neg h7] at he
          omega
end Go.Proofs.Ytdepidemciigkaa
