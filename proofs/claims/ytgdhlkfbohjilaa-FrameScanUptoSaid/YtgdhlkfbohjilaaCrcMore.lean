/-
  What sums tell apart, and how they go together: over lists of natural numbers. Of any program.
-/
import Derived.Test.YtgdhlkfbohjilaaCrcPlain
namespace Go.Proofs.Ytgdhlkfbohjilaa

theorem csum_inj {xs ys : List Nat} (hx : ∀ x ∈ xs, x < 256) (hy : ∀ y ∈ ys, y < 256) (h : csum xs = csum ys) : creg 4294967295 xs = creg 4294967295 ys := by
  have h1 := creg_lt xs (r := 4294967295) (by omega) hx
  have h2 := creg_lt ys (r := 4294967295) (by omega) hy
  unfold csum at h
  omega

theorem bytes_mid {p : List Nat} {a : Nat} {s : List Nat} (hp : ∀ x ∈ p, x < 256) (ha : a < 256) (hs : ∀ x ∈ s, x < 256) : ∀ x ∈ p ++ a :: s, x < 256 := by
  intro x hx
  rcases List.mem_append.1 hx with hx | hx
  · exact hp x hx
  · rcases List.mem_cons.1 hx with hx | hx
    · rw [hx]; exact ha
    · exact hs x hx

/-- Two rows of bytes that part at one place have the same sum just if they do not part there. -/
theorem csum_mid (p : List Nat) (a b : Nat) (s : List Nat) (hp : ∀ x ∈ p, x < 256) (ha : a < 256) (hb : b < 256) (hs : ∀ x ∈ s, x < 256)
    (h : csum (p ++ a :: s) = csum (p ++ b :: s)) : a = b := by
  have h1 := csum_inj (bytes_mid hp ha hs) (bytes_mid hp hb hs) h
  rw [creg_append, creg_append, creg_cons, creg_cons] at h1
  have hr := creg_lt p (r := 4294967295) (by omega) hp
  obtain ⟨r, hre⟩ : ∃ r, r = creg 4294967295 p := ⟨_, rfl⟩
  rw [← hre] at h1 hr
  have l1 := xor_lt32 hr (show a < 4294967296 by omega)
  have l2 := xor_lt32 hr (show b < 4294967296 by omega)
  have h2 := citer_inj 8 l1 l2 (creg_inj s hs (citer_lt 8 l1) (citer_lt 8 l2) h1)
  rw [Nat.xor_comm r a, Nat.xor_comm r b] at h2
  exact xor_cancel h2

theorem set_parts (xs : List Nat) (k y : Nat) (h : k < xs.length) : xs.set k y = xs.take k ++ y :: xs.drop (k + 1) := List.set_eq_take_append_cons_drop .. |>.trans (by rw [if_pos h])
theorem own_parts (xs : List Nat) (k : Nat) (h : k < xs.length) : xs = xs.take k ++ xs.getD k 0 :: xs.drop (k + 1) := by
  have h1 : xs.getD k 0 = xs[k] := by simp [List.getD, h]
  rw [h1, List.getElem_cons_drop, List.take_append_drop]

theorem xor_zero_of {a b : Nat} (h : a = a ^^^ b) : b = 0 := by
  have h2 : (0 : Nat) ^^^ a = b ^^^ a := by rw [Nat.zero_xor, Nat.xor_comm b a]; exact h
  exact (xor_cancel h2).symm

/-- A byte that is turned is seen by the sum. -/
theorem csum_set (xs : List Nat) (hx : ∀ x ∈ xs, x < 256) (k b : Nat) (hk : k < xs.length) (hb : b < 256) (h : csum xs = csum (xs.set k (xs.getD k 0 ^^^ b))) : b = 0 := by
  have hxk : xs.getD k 0 < 256 := by
    have h1 : xs.getD k 0 = xs[k] := by simp [List.getD, hk]
    rw [h1]; exact hx _ (List.getElem_mem hk)
  rw [set_parts xs k _ hk] at h
  have h2 : csum (xs.take k ++ xs.getD k 0 :: xs.drop (k + 1)) = csum (xs.take k ++ (xs.getD k 0 ^^^ b) :: xs.drop (k + 1)) := by
    rw [← h, ← own_parts xs k hk]
  exact xor_zero_of (csum_mid _ _ _ _ (fun x hm => hx x (List.mem_of_mem_take hm)) hxk (Nat.xor_lt_two_pow (n := 8) hxk hb) (fun x hm => hx x (List.mem_of_mem_drop hm)) h2)

/-- Two bytes behind the same ones. -/
theorem csum_last (p : List Nat) (a b : Nat) (hp : ∀ x ∈ p, x < 256) (ha : a < 256) (hb : b < 256) (h : csum (p ++ [a]) = csum (p ++ [b])) : a = b :=
  csum_mid p a b [] hp ha hb (by simp) h

/-- Rows turned into one another. -/
def mix : List Nat → List Nat → List Nat → List Nat
  | a :: as, b :: bs, c :: cs => (a ^^^ b ^^^ c) :: mix as bs cs
  | _, _, _ => []

theorem xor_six (a b c d e f : Nat) : (a ^^^ b ^^^ c) ^^^ (d ^^^ e ^^^ f) = (a ^^^ d) ^^^ (b ^^^ e) ^^^ (c ^^^ f) := by
  rw [xor_four (a ^^^ b) c (d ^^^ e) f, xor_four a b d e]

theorem creg_mix : ∀ (as bs cs : List Nat), as.length = bs.length → as.length = cs.length → ∀ r s t, creg (r ^^^ s ^^^ t) (mix as bs cs) = creg r as ^^^ creg s bs ^^^ creg t cs
  | [], bs, cs, hb, hc, r, s, t => by
    have e1 : bs = [] := List.eq_nil_of_length_eq_zero hb.symm
    have e2 : cs = [] := List.eq_nil_of_length_eq_zero hc.symm
    subst e1 e2
    rfl
  | a :: as, [], cs, hb, hc, r, s, t => by simp at hb
  | a :: as, b :: bs, [], hb, hc, r, s, t => by simp at hc
  | a :: as, b :: bs, c :: cs, hb, hc, r, s, t => by
    rw [mix, creg_cons, creg_cons, creg_cons, creg_cons, xor_six, citer_xor, citer_xor]
    exact creg_mix as bs cs (by simpa using hb) (by simpa using hc) _ _ _
end Go.Proofs.Ytgdhlkfbohjilaa
