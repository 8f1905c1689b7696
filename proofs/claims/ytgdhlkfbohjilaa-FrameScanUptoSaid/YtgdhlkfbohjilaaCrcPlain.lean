/-
  The sum of bytes over natural numbers: one step of the register, eight of them, a row of bytes; that a step is linear and loses nothing. Of any program.
-/
import Derived.Laws.BitsAllLaws
namespace Go.Proofs.Ytgdhlkfbohjilaa

def poly : Nat := 3988292384
/-- One step of the register. -/
def cstep (r : Nat) : Nat := if r % 2 = 1 then (r / 2) ^^^ poly else r / 2
/-- So many steps. -/
def citer : Nat → Nat → Nat
  | 0, r => r
  | k + 1, r => cstep (citer k r)
/-- The register behind bytes. -/
def creg (r : Nat) (xs : List Nat) : Nat := xs.foldl (fun r c => citer 8 (r ^^^ c)) r
/-- The sum. -/
def csum (xs : List Nat) : Nat := 4294967295 - creg 4294967295 xs

theorem xor_lt32 {a b : Nat} (ha : a < 4294967296) (hb : b < 4294967296) : a ^^^ b < 4294967296 := Nat.xor_lt_two_pow (n := 32) ha hb
theorem poly_lt : poly < 4294967296 := by decide
theorem cstep_lt {r : Nat} (h : r < 4294967296) : cstep r < 4294967296 := by
  unfold cstep
  split
  · exact xor_lt32 (by omega) poly_lt
  · omega
theorem citer_lt (k : Nat) {r : Nat} (h : r < 4294967296) : citer k r < 4294967296 := by
  induction k with
  | zero => exact h
  | succ k ih => exact cstep_lt ih
theorem creg_nil (r : Nat) : creg r [] = r := rfl
theorem creg_cons (r c : Nat) (xs : List Nat) : creg r (c :: xs) = creg (citer 8 (r ^^^ c)) xs := by unfold creg; rw [List.foldl_cons]
theorem creg_append (r : Nat) (xs ys : List Nat) : creg r (xs ++ ys) = creg (creg r xs) ys := by unfold creg; rw [List.foldl_append]
theorem creg_one (r c : Nat) : creg r [c] = citer 8 (r ^^^ c) := by rw [creg_cons, creg_nil]
theorem creg_snoc (r : Nat) (xs : List Nat) (c : Nat) : creg r (xs ++ [c]) = citer 8 (creg r xs ^^^ c) := by rw [creg_append, creg_one]
theorem creg_lt (xs : List Nat) : ∀ {r : Nat}, r < 4294967296 → (∀ x ∈ xs, x < 256) → creg r xs < 4294967296 := by
  induction xs with
  | nil => intro r h _; exact h
  | cons c xs ih =>
    intro r h hx
    rw [creg_cons]
    have hc := hx c (by simp)
    exact ih (citer_lt 8 (xor_lt32 h (by omega))) fun x hm => hx x (by simp [hm])

theorem xor_mod2 (a b : Nat) : (a ^^^ b) % 2 = (a % 2 + b % 2) % 2 := by
  have h := Nat.testBit_xor a b 0
  simp only [Nat.testBit_zero] at h
  have ha := Nat.mod_two_eq_zero_or_one a
  have hb := Nat.mod_two_eq_zero_or_one b
  have hc := Nat.mod_two_eq_zero_or_one (a ^^^ b)
  rcases ha with ha | ha <;> rcases hb with hb | hb <;> rcases hc with hc | hc <;> rw [ha, hb, hc] at h <;> simp [ha, hb, hc] at h ⊢
theorem xor_div2 (a b : Nat) : (a ^^^ b) / 2 = a / 2 ^^^ b / 2 := by
  have h := Nat.shiftRight_xor_distrib (a := a) (b := b) (i := 1)
  simpa [Nat.shiftRight_eq_div_pow] using h

theorem xor_four (a b c d : Nat) : (a ^^^ b) ^^^ (c ^^^ d) = (a ^^^ c) ^^^ (b ^^^ d) := by
  rw [Nat.xor_assoc, Nat.xor_assoc, ← Nat.xor_assoc b, Nat.xor_comm b c, Nat.xor_assoc c]
theorem xor_cancel {a b c : Nat} (h : a ^^^ c = b ^^^ c) : a = b := by
  have := congrArg (· ^^^ c) h
  simpa [Nat.xor_assoc, Nat.xor_self] using this
/-- A step is linear. -/
theorem cstep_xor (a b : Nat) : cstep (a ^^^ b) = cstep a ^^^ cstep b := by
  unfold cstep
  rw [xor_mod2, xor_div2]
  rcases Nat.mod_two_eq_zero_or_one a with ha | ha <;> rcases Nat.mod_two_eq_zero_or_one b with hb | hb <;> simp only [ha, hb]
  · simp
  · simp [Nat.xor_assoc]
  · simp
    rw [Nat.xor_assoc, Nat.xor_assoc, Nat.xor_comm (b / 2)]
  · simp
    rw [xor_four]
    simp
theorem citer_xor (k a b : Nat) : citer k (a ^^^ b) = citer k a ^^^ citer k b := by
  induction k with
  | zero => rfl
  | succ k ih => show cstep _ = cstep _ ^^^ cstep _; rw [ih, cstep_xor]

theorem xor_high {a : Nat} (ha : a < 2147483648) : 2147483648 ≤ a ^^^ poly := by
  have h : (a ^^^ poly).testBit 31 = true := by
    rw [Nat.testBit_xor, Nat.testBit_lt_two_pow (by omega)]
    decide
  exact Nat.ge_two_pow_of_testBit h
/-- A step loses nothing. -/
theorem cstep_inj {a b : Nat} (ha : a < 4294967296) (hb : b < 4294967296) (h : cstep a = cstep b) : a = b := by
  unfold cstep at h
  have ha2 : a / 2 < 2147483648 := by omega
  have hb2 : b / 2 < 2147483648 := by omega
  have h1 := xor_high ha2
  have h2 := xor_high hb2
  split at h <;> split at h
  · have := xor_cancel h
    omega
  · omega
  · omega
  · omega
theorem citer_inj (k : Nat) {a b : Nat} (ha : a < 4294967296) (hb : b < 4294967296) (h : citer k a = citer k b) : a = b := by
  induction k with
  | zero => exact h
  | succ k ih => exact ih (cstep_inj (citer_lt k ha) (citer_lt k hb) h)
theorem creg_inj (xs : List Nat) (hx : ∀ x ∈ xs, x < 256) : ∀ {a b : Nat}, a < 4294967296 → b < 4294967296 → creg a xs = creg b xs → a = b := by
  induction xs with
  | nil => intro a b _ _ h; exact h
  | cons c xs ih =>
    intro a b ha hb h
    have hc := hx c (by simp)
    rw [creg_cons, creg_cons] at h
    have h2 := ih (fun x hm => hx x (by simp [hm])) (citer_lt 8 (xor_lt32 ha (by omega))) (citer_lt 8 (xor_lt32 hb (by omega))) h
    exact xor_cancel (citer_inj 8 (xor_lt32 ha (by omega)) (xor_lt32 hb (by omega)) h2)
end Go.Proofs.Ytgdhlkfbohjilaa
