/-
  Requests: the plain words: seven numbers, and which may be.
-/
import Derived.Test.YtdcghnoioecglaaWords
namespace Go.Proofs.Ytdcghnoioecglaa
open Go

/-- A request's numbers, in the order of its fields. -/
structure Rq where
  key : Int
  op : Int
  a : Int
  b : Int
  amt : Int
  legs : Int
  til : Int
deriving DecidableEq

def Rq.nums (r : Rq) : List Int := [r.key, r.op, r.a, r.b, r.amt, r.legs, r.til]
def Rq.val (r : Rq) : Value := .agg #[.int .i64 r.key, .int .i64 r.op, .int .i64 r.a, .int .i64 r.b, .int .i64 r.amt, .int .i64 r.legs, .int .i64 r.til]
def Rq.zero : Rq := ⟨0, 0, 0, 0, 0, 0, 0⟩
def inI (x : Int) : Prop := -9223372036854775808 ≤ x ∧ x ≤ 9223372036854775807
def Rq.fits (r : Rq) : Prop := ∀ x ∈ r.nums, inI x

/-- What depends on the op. -/
def opOk (r : Rq) : Prop := if r.op = 0 then 0 ≤ r.a ∧ r.a ≤ 2 else r.op = 5 ∨ (0 < r.op ∧ r.op < 8 ∧ 1 ≤ r.amt ∧ r.amt ≤ 1099511627776)
instance (r : Rq) : Decidable (opOk r) := by unfold opOk; exact inferInstance
def legsOk (r : Rq) : Prop := if r.op = 2 then 0 ≤ r.legs ∧ r.legs ≤ 4 else r.legs = 0
instance (r : Rq) : Decidable (legsOk r) := by unfold legsOk; exact inferInstance
/-- Which requests may be. -/
def Rq.may (r : Rq) : Prop := (0 ≤ r.key ∧ r.key ≤ 1073741823) ∧ legsOk r ∧ (0 ≤ r.til ∧ r.til ≤ 1073741824) ∧ opOk r
instance (r : Rq) : Decidable r.may := by unfold Rq.may; exact inferInstance

theorem inI_of {x : Int} (h : inI x) : -9223372036854775808 ≤ x ∧ x ≤ 9223372036854775807 := h
theorem Rq.fits_iff (r : Rq) : r.fits ↔ inI r.key ∧ inI r.op ∧ inI r.a ∧ inI r.b ∧ inI r.amt ∧ inI r.legs ∧ inI r.til := by
  unfold Rq.fits Rq.nums
  simp

theorem Rq.nums_len (r : Rq) : r.nums.length = 7 := rfl
theorem Rq.nums_inj {r q : Rq} (h : r.nums = q.nums) : r = q := by
  obtain ⟨a, b, c, d, e, f, g⟩ := r
  obtain ⟨a', b', c', d', e', f', g'⟩ := q
  simp [Rq.nums] at h
  simp [h]
/-- Seven numbers are a request's. -/
theorem Rq.of_nums {ns : List Int} (h : ns.length = 7) : ∃ r : Rq, ns = r.nums := by
  match ns, h with
  | [a, b, c, d, e, f, g], _ => exact ⟨⟨a, b, c, d, e, f, g⟩, rfl⟩

/-- Two requests: the same, or unlike first in one field. -/
theorem rq_parts (a b c d e f g a' b' c' d' e' f' g' : Int) : (a = a' ∧ b = b' ∧ c = c' ∧ d = d' ∧ e = e' ∧ f = f' ∧ g = g') ∨ ¬ a = a' ∨ (a = a' ∧ ¬ b = b') ∨ (a = a' ∧ b = b' ∧ ¬ c = c') ∨ (a = a' ∧ b = b' ∧ c = c' ∧ ¬ d = d') ∨ (a = a' ∧ b = b' ∧ c = c' ∧ d = d' ∧ ¬ e = e') ∨ (a = a' ∧ b = b' ∧ c = c' ∧ d = d' ∧ e = e' ∧ ¬ f = f') ∨ (a = a' ∧ b = b' ∧ c = c' ∧ d = d' ∧ e = e' ∧ f = f' ∧ ¬ g = g') := by
  by_cases h0 : a = a'
  · by_cases h1 : b = b'
    · by_cases h2 : c = c'
      · by_cases h3 : d = d'
        · by_cases h4 : e = e'
          · by_cases h5 : f = f'
            · by_cases h6 : g = g' <;> simp [h0, h1, h2, h3, h4, h5, h6]
            · simp [h0, h1, h2, h3, h4, h5]
          · simp [h0, h1, h2, h3, h4]
        · simp [h0, h1, h2, h3]
      · simp [h0, h1, h2]
    · simp [h0, h1]
  · simp [h0]
end Go.Proofs.Ytdcghnoioecglaa
