/-
  Balances added one by one: the plain words, over lists of integers.
-/
namespace Go.Proofs.YtbdjcmjjicpcaaaDoor
/-- One number more; none, if it, or the sum, may not be. -/
def acc (s : Option Int) (n : Int) : Option Int :=
  match s with
  | none => none
  | some t => if -1125899906842624 ≤ n ∧ n ≤ 1125899906842624 ∧ -1125899906842624 ≤ t + n ∧ t + n ≤ 1125899906842624 then some (t + n) else none
/-- The first k numbers together. -/
def sumTo (zs : List Int) (k : Nat) : Option Int := (zs.take k).foldl acc (some 0)
theorem sumTo_zero (zs : List Int) : sumTo zs 0 = some 0 := rfl
theorem sumTo_succ (zs : List Int) (k : Nat) (h : k < zs.length) : sumTo zs (k + 1) = acc (sumTo zs k) (zs.getD k 0) := by
  unfold sumTo
  rw [List.take_succ_eq_append_getElem h, List.foldl_append]
  simp [List.getD, h]
theorem acc_some (t n : Int) (h : -1125899906842624 ≤ n ∧ n ≤ 1125899906842624 ∧ -1125899906842624 ≤ t + n ∧ t + n ≤ 1125899906842624) : acc (some t) n = some (t + n) := by
  unfold acc; simp only; rw [if_pos h]
theorem acc_none (t n : Int) (h : ¬ (-1125899906842624 ≤ n ∧ n ≤ 1125899906842624 ∧ -1125899906842624 ≤ t + n ∧ t + n ≤ 1125899906842624)) : acc (some t) n = none := by
  unfold acc; simp only; rw [if_neg h]
theorem sumTo_none_more (zs : List Int) (j : Nat) : ∀ d, j + d ≤ zs.length → sumTo zs j = none → sumTo zs (j + d) = none
  | 0, _, h => h
  | d + 1, hl, h => by
    have e : j + (d + 1) = (j + d) + 1 := by omega
    rw [e, sumTo_succ zs (j + d) (by omega), sumTo_none_more zs j d (by omega) h]; rfl
theorem sumTo_none_le (zs : List Int) (j k : Nat) (hjk : j ≤ k) (hk : k ≤ zs.length) (h : sumTo zs j = none) : sumTo zs k = none := by
  have := sumTo_none_more zs j (k - j) (by omega) h
  rwa [show j + (k - j) = k by omega] at this
end Go.Proofs.YtbdjcmjjicpcaaaDoor
