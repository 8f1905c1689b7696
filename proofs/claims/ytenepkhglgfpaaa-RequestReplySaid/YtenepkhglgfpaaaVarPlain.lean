/-
  Numbers as bytes: the plain words, over lists of natural numbers: what an encoding is, what is read of bytes, and that the two fit.
-/

namespace Go.Proofs.Ytenepkhglgfpaaa

/-- The bytes of an unsigned number: seven bits each, the lowest ones first. -/
def enc (u : Nat) : List Nat := if u < 128 then [u] else (u % 128 + 128) :: enc (u / 128)
  termination_by u
  decreasing_by omega

theorem enc_small {u : Nat} (h : u < 128) : enc u = [u] := by rw [enc, if_pos h]
theorem enc_big {u : Nat} (h : 128 ≤ u) : enc u = (u % 128 + 128) :: enc (u / 128) := by rw [enc, if_neg (by omega)]

/-- The unsigned number of a number. -/
def pairN (n : Int) : Nat := if n < 0 then (2 * (-1 - n) + 1).toNat else (2 * n).toNat
/-- The number of an unsigned one. -/
def unp (u : Nat) : Int := if u % 2 = 1 then -1 - ((u / 2 : Nat) : Int) else ((u / 2 : Nat) : Int)

theorem pairN_neg {n : Int} (h : n < 0) : pairN n = (2 * (-1 - n) + 1).toNat := by unfold pairN; rw [if_pos h]
theorem pairN_pos {n : Int} (h : ¬ n < 0) : pairN n = (2 * n).toNat := by unfold pairN; rw [if_neg h]
theorem pairN_lt {n : Int} (h1 : -9223372036854775808 ≤ n) (h2 : n ≤ 9223372036854775807) : pairN n < 18446744073709551616 := by
  unfold pairN; split <;> omega
theorem unp_pair (n : Int) : unp (pairN n) = n := by unfold unp pairN; split <;> split <;> omega
theorem pair_unp (u : Nat) : pairN (unp u) = u := by unfold unp pairN; split <;> split <;> omega
theorem unp_bd {u : Nat} (h : u < 18446744073709551616) : -9223372036854775808 ≤ unp u ∧ unp u ≤ 9223372036854775807 := by
  unfold unp; split <;> omega
theorem pairN_inj {a b : Int} (h : pairN a = pairN b) : a = b := by rw [← unp_pair a, ← unp_pair b, h]

theorem enc_len_pos (u : Nat) : 1 ≤ (enc u).length := by
  rw [enc]; split <;> simp

theorem enc_len_le : ∀ (k u : Nat), u < 128 ^ (k + 1) → (enc u).length ≤ k + 1
  | 0, u, h => by rw [enc_small (by simpa using h)]; simp
  | k + 1, u, h => by
    by_cases hs : u < 128
    · rw [enc_small hs]; simp
    · have ih := enc_len_le k (u / 128) (by
        apply Nat.div_lt_of_lt_mul
        rw [Nat.pow_succ] at h
        omega)
      rw [enc_big (by omega), List.length_cons]
      omega

theorem enc_len_ten {u : Nat} (h : u < 18446744073709551616) : (enc u).length ≤ 10 := enc_len_le 9 u (by omega)

theorem enc_bytes (u : Nat) : ∀ c ∈ enc u, c < 256 := by
  induction u using Nat.strongRecOn with
  | ind u ih =>
    by_cases hs : u < 128
    · rw [enc_small hs]; intro c hc; simp at hc; omega
    · rw [enc_big (by omega)]
      intro c hc
      rcases List.mem_cons.1 hc with rfl | hc
      · omega
      · exact ih (u / 128) (by omega) c hc

/-- What is read of bytes from place i on, with what was read ahead of it: the number, and how many bytes it has. -/
def rdF : Nat → Nat → List Nat → Option (Nat × Nat)
  | _, _, [] => none
  | i, acc, c :: r => if 10 ≤ i then none else if 128 ≤ c then rdF (i + 1) (acc + c % 128 * 2 ^ (7 * i)) r else if (c = 0 ∧ 0 < i) ∨ (i = 9 ∧ 1 < c) then none else some (acc + c % 128 * 2 ^ (7 * i), i + 1)

def rd (xs : List Nat) : Option (Nat × Nat) := rdF 0 0 xs

theorem rdF_nil (i acc : Nat) : rdF i acc [] = none := rfl
theorem rdF_over {i : Nat} (h : 10 ≤ i) (acc : Nat) (xs : List Nat) : rdF i acc xs = none := by
  cases xs with
  | nil => rfl
  | cons c r => rw [rdF, if_pos h]
theorem rdF_more {i c : Nat} (h : i < 10) (hc : 128 ≤ c) (acc : Nat) (r : List Nat) : rdF i acc (c :: r) = rdF (i + 1) (acc + c % 128 * 2 ^ (7 * i)) r := by
  rw [rdF, if_neg (by omega), if_pos hc]
theorem rdF_bad {i c : Nat} (h : i < 10) (hc : c < 128) (hb : (c = 0 ∧ 0 < i) ∨ (i = 9 ∧ 1 < c)) (acc : Nat) (r : List Nat) : rdF i acc (c :: r) = none := by
  rw [rdF, if_neg (by omega), if_neg (by omega), if_pos hb]
theorem rdF_last {i c : Nat} (h : i < 10) (hc : c < 128) (hb : ¬ ((c = 0 ∧ 0 < i) ∨ (i = 9 ∧ 1 < c))) (acc : Nat) (r : List Nat) : rdF i acc (c :: r) = some (acc + c % 128 * 2 ^ (7 * i), i + 1) := by
  rw [rdF, if_neg (by omega), if_neg (by omega), if_neg hb]

theorem pow_step (i : Nat) (h : i ≤ 8) : (2 : Nat) ^ (64 - 7 * i) = 128 * 2 ^ (64 - 7 * (i + 1)) := by
  have e : 64 - 7 * i = 7 + (64 - 7 * (i + 1)) := by omega
  rw [e, Nat.pow_add]
theorem pow_up (i : Nat) : (2 : Nat) ^ (7 * (i + 1)) = 128 * 2 ^ (7 * i) := by
  rw [show 7 * (i + 1) = 7 + 7 * i by omega, Nat.pow_add]
theorem nine_pow : (2 : Nat) ^ (64 - 7 * 9) = 2 := rfl

/-- What is laid is read, whatever stands behind. -/
theorem rdF_enc : ∀ (v i acc : Nat) (r : List Nat), i ≤ 9 → v < 2 ^ (64 - 7 * i) → (0 < i → v ≠ 0) → rdF i acc (enc v ++ r) = some (acc + v * 2 ^ (7 * i), i + (enc v).length) := by
  intro v
  induction v using Nat.strongRecOn with
  | ind v ih =>
    intro i acc r hi hv h0
    by_cases hs : v < 128
    · have hn : ¬ ((v = 0 ∧ 0 < i) ∨ (i = 9 ∧ 1 < v)) := by
        rintro (⟨a, b⟩ | ⟨rfl, b⟩)
        · exact h0 b a
        · rw [nine_pow] at hv; omega
      rw [enc_small hs]
      show rdF i acc (v :: r) = _
      rw [rdF_last (by omega) hs hn, Nat.mod_eq_of_lt hs]
      rfl
    · have hi8 : i ≤ 8 := by
        rcases Nat.lt_or_ge i 9 with h | h
        · omega
        · have : i = 9 := by omega
          subst this; rw [nine_pow] at hv; omega
      rw [pow_step i hi8] at hv
      have hd : v / 128 < 2 ^ (64 - 7 * (i + 1)) := Nat.div_lt_of_lt_mul hv
      rw [enc_big (by omega)]
      show rdF i acc ((v % 128 + 128) :: (enc (v / 128) ++ r)) = _
      rw [rdF_more (by omega) (by omega), ih (v / 128) (by omega) (i + 1) _ r (by omega) hd (fun _ => by omega)]
      have e1 : (v % 128 + 128) % 128 = v % 128 := by omega
      rw [e1, pow_up]
      congr 2
      · have e2 : v = v % 128 + 128 * (v / 128) := by omega
        have e3 : v * 2 ^ (7 * i) = (v % 128 + 128 * (v / 128)) * 2 ^ (7 * i) := by rw [← e2]
        rw [e3, Nat.add_mul, Nat.add_assoc]
        congr 2
        rw [Nat.mul_comm 128 (v / 128), Nat.mul_assoc]
      · simp only [List.length_cons]; omega

theorem rd_enc {u : Nat} (h : u < 18446744073709551616) (r : List Nat) : rd (enc u ++ r) = some (u, (enc u).length) := by
  unfold rd
  rw [rdF_enc u 0 0 r (by omega) (by simpa using h) (by omega)]
  simp

/-- What is read is what is laid there. -/
theorem rdF_some : ∀ (xs : List Nat) (i acc u s : Nat), (∀ c ∈ xs, c < 256) → rdF i acc xs = some (u, s) →
    ∃ v, i ≤ 9 ∧ v < 2 ^ (64 - 7 * i) ∧ (0 < i → v ≠ 0) ∧ u = acc + v * 2 ^ (7 * i) ∧ s = i + (enc v).length ∧ ∃ r, xs = enc v ++ r
  | [], i, acc, u, s, _, h => by cases h
  | c :: xs, i, acc, u, s, hb, h => by
    have hc : c < 256 := hb c (by simp)
    by_cases hi : 10 ≤ i
    · rw [rdF_over hi] at h; cases h
    · by_cases hm : 128 ≤ c
      · rw [rdF_more (by omega) hm] at h
        obtain ⟨v, h9, hv, h0, hu, hs, r, hr⟩ := rdF_some xs (i + 1) _ u s (fun x hx => hb x (by simp [hx])) h
        have hv0 := h0 (by omega)
        have e : enc (c % 128 + 128 * v) = c :: enc v := by
          rw [enc_big (by omega)]
          congr 1
          · omega
          · congr 1; omega
        refine ⟨c % 128 + 128 * v, by omega, ?_, fun _ => by omega, ?_, ?_, r, ?_⟩
        · rw [pow_step i (by omega)]
          omega
        · rw [hu, pow_up, Nat.add_mul, Nat.add_assoc]
          congr 2
          rw [Nat.mul_comm 128 v, Nat.mul_assoc]
        · rw [e, List.length_cons]; omega
        · rw [e, hr]; rfl
      · by_cases hbad : (c = 0 ∧ 0 < i) ∨ (i = 9 ∧ 1 < c)
        · rw [rdF_bad (by omega) (by omega) hbad] at h; cases h
        · rw [rdF_last (by omega) (by omega) hbad] at h
          injection h with h
          injection h with h1 h2
          refine ⟨c, by omega, ?_, ?_, ?_, ?_, xs, ?_⟩
          · rcases Nat.lt_or_ge i 9 with h | h
            · have hp : (2 : Nat) ^ (64 - 7 * 8) ≤ 2 ^ (64 - 7 * i) := Nat.pow_le_pow_right (by omega) (by omega)
              have he : (2 : Nat) ^ (64 - 7 * 8) = 256 := rfl
              omega
            · have : i = 9 := by omega
              subst this; rw [nine_pow]
              have : ¬ 1 < c := fun h => hbad (.inr ⟨rfl, h⟩)
              omega
          · intro h h'; exact hbad (.inl ⟨h', h⟩)
          · rw [← h1, Nat.mod_eq_of_lt (show c < 128 by omega)]
          · rw [enc_small (by omega), ← h2]; rfl
          · rw [enc_small (by omega)]; rfl

theorem rd_some {xs : List Nat} {u s : Nat} (hb : ∀ c ∈ xs, c < 256) (h : rd xs = some (u, s)) :
    u < 18446744073709551616 ∧ s = (enc u).length ∧ xs = enc u ++ xs.drop s := by
  obtain ⟨v, _, hv, _, hu, hs, r, hr⟩ := rdF_some xs 0 0 u s hb h
  have e : u = v := by rw [hu]; simp
  subst e
  have hs' : s = (enc u).length := by omega
  refine ⟨by simpa using hv, hs', ?_⟩
  rw [hs', hr, List.drop_left]

theorem rd_size {xs : List Nat} {u s : Nat} (hb : ∀ c ∈ xs, c < 256) (h : rd xs = some (u, s)) : 1 ≤ s ∧ s ≤ 10 ∧ s ≤ xs.length := by
  obtain ⟨h1, h2, h3⟩ := rd_some hb h
  have a := enc_len_pos u
  have b := enc_len_ten h1
  have c : xs.length = (enc u).length + (xs.drop s).length := by
    have := congrArg List.length h3
    simpa using this
  omega

/-- Of two encodings none begins the other. -/
theorem enc_two {a b : Nat} (ha : a < 18446744073709551616) (hb : b < 18446744073709551616) (r q : List Nat) (h : enc a ++ r = enc b ++ q) : a = b := by
  have h1 := rd_enc ha r
  rw [h, rd_enc hb q] at h1
  injection h1 with h1
  injection h1 with h1 _
  exact h1.symm

theorem enc_inj {a b : Nat} (ha : a < 18446744073709551616) (hb : b < 18446744073709551616) (h : enc a = enc b) : a = b := enc_two ha hb [] [] (by rw [h])

/-- Several numbers, one behind the other. -/
def encs (ns : List Int) : List Nat := ns.flatMap fun n => enc (pairN n)
theorem encs_nil : encs [] = [] := rfl
theorem encs_cons (n : Int) (ns : List Int) : encs (n :: ns) = enc (pairN n) ++ encs ns := by simp [encs]
theorem encs_append (a b : List Int) : encs (a ++ b) = encs a ++ encs b := by simp [encs]
theorem encs_one (n : Int) : encs [n] = enc (pairN n) := by simp [encs]
theorem encs_bytes (ns : List Int) : ∀ c ∈ encs ns, c < 256 := by
  intro c hc
  obtain ⟨n, _, hn⟩ := List.mem_flatMap.1 hc
  exact enc_bytes _ c hn
theorem encs_len (ns : List Int) (h : ∀ n ∈ ns, pairN n < 18446744073709551616) : (encs ns).length ≤ 10 * ns.length := by
  induction ns with
  | nil => simp [encs]
  | cons n ns ih =>
    rw [encs_cons, List.length_append, List.length_cons]
    have h1 := enc_len_ten (h n (by simp))
    have h2 := ih (fun m hm => h m (by simp [hm]))
    omega
end Go.Proofs.Ytenepkhglgfpaaa
