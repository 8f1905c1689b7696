/-
  Three rows of bytes turned into one another: their sums go as they do. Over lists of natural numbers.
-/
import Derived.Test.YtkichofkepnpiaaCrcMore
import Derived.Test.YtkichofkepnpiaaCrcWrite
namespace Go.Proofs.Ytkichofkepnpiaa
open Go.RowKit

theorem mix_length : ∀ (n : Nat) (xs ys zs : List Nat), xs.length = n → ys.length = n → zs.length = n → (mix xs ys zs).length = n
  | 0, [], [], [], _, _, _ => rfl
  | n + 1, a :: xs, b :: ys, c :: zs, h1, h2, h3 => by
    simp only [List.length_cons] at h1 h2 h3
    rw [mix, List.length_cons, mix_length n xs ys zs (by omega) (by omega) (by omega)]
theorem mix_getD : ∀ (n : Nat) (xs ys zs : List Nat), xs.length = n → ys.length = n → zs.length = n → ∀ k, k < n → (mix xs ys zs).getD k 0 = xs.getD k 0 ^^^ ys.getD k 0 ^^^ zs.getD k 0
  | n + 1, a :: xs, b :: ys, c :: zs, h1, h2, h3, 0, _ => rfl
  | n + 1, a :: xs, b :: ys, c :: zs, h1, h2, h3, k + 1, hk => by
    simp only [List.length_cons] at h1 h2 h3
    rw [mix, List.getD_cons_succ, List.getD_cons_succ, List.getD_cons_succ, List.getD_cons_succ]
    exact mix_getD n xs ys zs (by omega) (by omega) (by omega) k (by omega)
theorem mix_lt : ∀ {xs ys zs : List Nat}, (∀ x ∈ xs, x < 256) → (∀ x ∈ ys, x < 256) → (∀ x ∈ zs, x < 256) → ∀ x ∈ mix xs ys zs, x < 256
  | [], _, _, _, _, _, x, hx => by simp [mix] at hx
  | _ :: _, [], _, _, _, _, x, hx => by simp [mix] at hx
  | _ :: _, _ :: _, [], _, _, _, x, hx => by simp [mix] at hx
  | a :: xs, b :: ys, c :: zs, ha, hb, hc, x, hx => by
    rw [mix] at hx
    rcases List.mem_cons.1 hx with rfl | hx
    · exact Nat.xor_lt_two_pow (n := 8) (Nat.xor_lt_two_pow (n := 8) (ha a (by simp)) (hb b (by simp))) (hc c (by simp))
    · exact mix_lt (fun x h => ha x (by simp [h])) (fun x h => hb x (by simp [h])) (fun x h => hc x (by simp [h])) x hx
theorem csum_flip {xs : List Nat} (h : ∀ x ∈ xs, x < 256) : csum xs = 4294967295 ^^^ creg 4294967295 xs := by
  rw [flip_xor _ (creg_lt xs (by omega) h), csum]
/-- The sums go as the bytes do. -/
theorem csum_mix {xs ys zs : List Nat} {n : Nat} (h1 : xs.length = n) (h2 : ys.length = n) (h3 : zs.length = n) (ha : ∀ x ∈ xs, x < 256) (hb : ∀ x ∈ ys, x < 256) (hc : ∀ x ∈ zs, x < 256) :
    csum (mix xs ys zs) = csum xs ^^^ csum ys ^^^ csum zs := by
  have e := creg_mix xs ys zs (by omega) (by omega) 4294967295 4294967295 4294967295
  rw [show (4294967295 : Nat) ^^^ 4294967295 ^^^ 4294967295 = 4294967295 by decide] at e
  rw [csum_flip ha, csum_flip hb, csum_flip hc, csum_flip (mix_lt ha hb hc), e, ← xor_six, show (4294967295 : Nat) ^^^ 4294967295 ^^^ 4294967295 = 4294967295 by decide]
/-- One more place. -/
theorem take_set_next {ds ms : List Nat} {k y : Nat} (hk : k < ds.length) (hm : k < ms.length) (h : ds.take k = ms.take k) (hy : y = ms.getD k 0) : (ds.set k y).take (k + 1) = ms.take (k + 1) := by
  rw [take_succ_nat _ k (by simpa using hk), take_succ_nat _ k hm, List.take_set_of_le (Nat.le_refl _), h, hy]
  simp [List.getD, hk]

theorem min3_int {P : Program} (x y z : Int) (W : World) (ts : Array TypeId) (t : TypeId) :
    (Builtin.min_ ts t #[.int .i64 x, .int .i64 y, .int .i64 z]).run P W = .ok (.int .i64 (if z < (if y < x then y else x) then z else (if y < x then y else x))) W := by
  simp [Builtin.min_, Builtin.min2]
theorem min3_ok {P : Program} (la lb lc n : Nat) (h : n = min (min la lb) lc) (W : World) (ts : Array TypeId) (t : TypeId) :
    (Builtin.min_ ts t #[.int .i64 (la : Int), .int .i64 (lb : Int), .int .i64 (lc : Int)]).run P W = .ok (.int .i64 (n : Int)) W := by
  rw [min3_int]
  subst h
  congr 2
  split <;> split at * <;> omega
end Go.Proofs.Ytkichofkepnpiaa
