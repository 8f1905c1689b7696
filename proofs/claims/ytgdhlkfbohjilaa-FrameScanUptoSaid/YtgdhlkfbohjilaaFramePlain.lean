/-
  Frames over lists of natural numbers: a record's bytes, the record that bytes begin with, records one behind the other. Of any program.
-/
import Derived.Test.YtgdhlkfbohjilaaCrcMore
namespace Go.Proofs.Ytgdhlkfbohjilaa

theorem csum_lt32 (p : List Nat) : csum p < 4294967296 := by unfold csum; omega

/-- Six bytes of a length and a sum. -/
def hdOf (n s : Nat) : List Nat := [n / 256 % 256, n % 256, s / 16777216 % 256, s / 65536 % 256, s / 256 % 256, s % 256]
/-- What stands ahead of a record. -/
def fhd (xs : List Nat) : List Nat := hdOf xs.length (csum xs)
/-- A record's bytes. -/
def fmk (xs : List Nat) : List Nat := fhd xs ++ xs
/-- The record that bytes begin with. -/
def fone (bs : List Nat) : Option (List Nat) :=
  if bs.length < 6 then none
  else if 16384 < bs.getD 0 0 * 256 + bs.getD 1 0 ∨ bs.length - 6 < bs.getD 0 0 * 256 + bs.getD 1 0 then none
  else if bs.take 6 = fhd ((bs.drop 6).take (bs.getD 0 0 * 256 + bs.getD 1 0)) then some ((bs.drop 6).take (bs.getD 0 0 * 256 + bs.getD 1 0)) else none

theorem hdOf_lt (n s : Nat) : ∀ x ∈ hdOf n s, x < 256 := by
  intro x hx
  simp only [hdOf, List.mem_cons, List.not_mem_nil, or_false] at hx
  omega
theorem fhd_length (xs : List Nat) : (fhd xs).length = 6 := rfl
theorem fmk_length (xs : List Nat) : (fmk xs).length = 6 + xs.length := by rw [fmk, List.length_append, fhd_length]
theorem fmk_lt {xs : List Nat} (h : ∀ x ∈ xs, x < 256) : ∀ x ∈ fmk xs, x < 256 := by
  intro x hx
  rcases List.mem_append.1 hx with hx | hx
  · exact hdOf_lt _ _ x hx
  · exact h x hx
theorem hdOf_inj {n n' s s' : Nat} (hn : n < 65536) (hn' : n' < 65536) (hs : s < 4294967296) (hs' : s' < 4294967296) (h : hdOf n s = hdOf n' s') : n = n' ∧ s = s' := by
  simp only [hdOf, List.cons.injEq, and_true] at h
  omega

theorem fmk_size (xs rest : List Nat) (h : xs.length ≤ 16384) : (fmk xs ++ rest).getD 0 0 * 256 + (fmk xs ++ rest).getD 1 0 = xs.length := by
  simp only [fmk, fhd, hdOf, List.cons_append, List.nil_append, List.getD_cons_zero, List.getD_cons_succ]
  omega
theorem fmk_take (xs rest : List Nat) : (fmk xs ++ rest).take 6 = fhd xs := by
  rw [fmk, List.append_assoc, List.take_left' (fhd_length xs)]
theorem fmk_drop (xs rest : List Nat) : (fmk xs ++ rest).drop 6 = xs ++ rest := by
  rw [fmk, List.append_assoc, List.drop_left' (fhd_length xs)]

theorem fone_mk (xs rest : List Nat) (h : xs.length ≤ 16384) : fone (fmk xs ++ rest) = some xs := by
  have hl : (fmk xs ++ rest).length = 6 + xs.length + rest.length := by rw [List.length_append, fmk_length]
  unfold fone
  rw [fmk_size xs rest h, fmk_take, fmk_drop, List.take_left' rfl, if_neg (by omega), if_neg (by omega), if_pos rfl]

theorem fone_some {bs r : List Nat} (h : fone bs = some r) : r.length ≤ 16384 ∧ 6 + r.length ≤ bs.length ∧ bs.take (6 + r.length) = fmk r ∧ r = (bs.drop 6).take r.length ∧ bs.getD 0 0 * 256 + bs.getD 1 0 = r.length := by
  unfold fone at h
  split at h
  · cases h
  · split at h
    · cases h
    · split at h
      · rename_i h1 h2 h3
        injection h with h
        have hl : r.length = bs.getD 0 0 * 256 + bs.getD 1 0 := by rw [← h, List.length_take, List.length_drop]; omega
        rw [h] at h3
        have h4 : r = (bs.drop 6).take r.length := by rw [hl, h]
        exact ⟨by omega, by omega, by rw [List.take_add, h3, ← h4, fmk], h4, hl.symm⟩
      · cases h
theorem fone_split {bs r : List Nat} (h : fone bs = some r) : bs = fmk r ++ bs.drop (6 + r.length) := by
  conv => lhs; rw [← List.take_append_drop (6 + r.length) bs, (fone_some h).2.2.1]
theorem fone_short {bs : List Nat} (h : bs.length < 6) : fone bs = none := by unfold fone; rw [if_pos h]

/-- A record of which the end is missing is none. -/
theorem fone_cut (xs : List Nat) (k : Nat) (h : xs.length ≤ 16384) (hk : k < (fmk xs).length) : fone ((fmk xs).take k) = none := by
  rw [fmk_length] at hk
  have hl : ((fmk xs).take k).length = k := by rw [List.length_take, fmk_length]; omega
  by_cases h6 : k < 6
  · exact fone_short (by omega)
  · have h0 : ∀ j, j < 2 → ((fmk xs).take k).getD j 0 = (fmk xs).getD j 0 := by
      intro j hj
      simp only [List.getD, List.getElem?_take]
      rw [if_pos (by omega)]
    have h1 := fmk_size xs [] h
    rw [List.append_nil] at h1
    unfold fone
    rw [h0 0 (by omega), h0 1 (by omega), h1, if_neg (by omega), if_pos (by omega)]

/-- A record of which a byte of its sum, or of its own, is turned is none. -/
theorem fone_turned (xs : List Nat) (hx : ∀ x ∈ xs, x < 256) (k b : Nat) (h : xs.length ≤ 16384) (hk2 : 2 ≤ k) (hk : k < (fmk xs).length) (hb : b < 256) (hb0 : b ≠ 0) :
    fone ((fmk xs).set k ((fmk xs).getD k 0 ^^^ b)) = none := by
  rw [fmk_length] at hk
  have h0 : ∀ y j, j < 2 → ((fmk xs).set k y).getD j 0 = (fmk xs).getD j 0 := by
    intro y j hj
    simp only [List.getD]
    rw [List.getElem?_set_ne (by omega)]
  have h1 := fmk_size xs [] h
  have ht := fmk_take xs []
  have hd := fmk_drop xs []
  rw [List.append_nil] at h1 ht hd
  rw [List.append_nil] at hd
  unfold fone
  rw [h0 _ 0 (by omega), h0 _ 1 (by omega), h1, List.length_set, fmk_length, if_neg (by omega), if_neg (by omega), List.take_set, List.drop_set, ht, hd]
  by_cases h6 : k < 6
  · rw [if_pos h6, List.take_of_length_le (Nat.le_refl _)]
    refine if_neg fun he => hb0 ?_
    have h2 : (fmk xs).getD k 0 = (fhd xs).getD k 0 := by
      simp only [List.getD, fmk]
      rw [List.getElem?_append_left (by rw [fhd_length]; exact h6)]
    rw [h2] at he
    obtain ⟨y, hy⟩ : ∃ y, y = (fhd xs).getD k 0 := ⟨_, rfl⟩
    rw [← hy] at he
    have h3 := congrArg (fun l => l.getD k 0) he
    simp only [List.getD] at h3
    rw [List.getElem?_set_self (by rw [fhd_length]; exact h6)] at h3
    simp only [Option.getD_some] at h3
    have h4 : y ^^^ b = y := by rw [h3, hy, List.getD]
    exact xor_zero_of h4.symm
  · rw [if_neg h6, List.set_eq_of_length_le (by rw [fhd_length]; omega), List.take_of_length_le (by rw [List.length_set]; exact Nat.le_refl _)]
    refine if_neg fun he => hb0 ?_
    have h2 : (fmk xs).getD k 0 = xs.getD (k - 6) 0 := by
      simp only [List.getD, fmk]
      rw [List.getElem?_append_right (by rw [fhd_length]; omega), fhd_length]
    rw [h2] at he
    have h3 := (hdOf_inj (by omega) (by rw [List.length_set]; omega) (csum_lt32 _) (csum_lt32 _) he).2
    exact csum_set xs hx (k - 6) b (by omega) hb h3

/-- Records' bytes, one behind the other. -/
def flat (rs : List (List Nat)) : List Nat := rs.flatMap fmk
theorem flat_nil : flat [] = [] := rfl
theorem flat_cons (r : List Nat) (rs : List (List Nat)) : flat (r :: rs) = fmk r ++ flat rs := rfl
theorem flat_append (a b : List (List Nat)) : flat (a ++ b) = flat a ++ flat b := by simp [flat]
theorem flat_one (r : List Nat) : flat [r] = fmk r := by rw [flat_cons, flat_nil, List.append_nil]
theorem flat_snoc (rs : List (List Nat)) (r : List Nat) : flat (rs ++ [r]) = flat rs ++ fmk r := by rw [flat_append, flat_one]
theorem flat_len (rs : List (List Nat)) : 6 * rs.length ≤ (flat rs).length := by
  induction rs with
  | nil => simp
  | cons r rs ih => rw [flat_cons, List.length_append, fmk_length, List.length_cons]; omega

/-- The records of bytes, as many as there are. -/
def Scanned (bs : List Nat) (rs : List (List Nat)) : Prop := (∀ r ∈ rs, r.length ≤ 16384) ∧ ∃ t, bs = flat rs ++ t ∧ fone t = none

theorem Scanned.none_ {bs : List Nat} {rs : List (List Nat)} (h : Scanned bs rs) (h0 : fone bs = none) : rs = [] := by
  obtain ⟨hl, t, rfl, _⟩ := h
  cases rs with
  | nil => rfl
  | cons r rs =>
    rw [flat_cons, List.append_assoc, fone_mk r _ (hl r (by simp))] at h0
    cases h0
theorem Scanned.some_ {r bs : List Nat} {rs : List (List Nat)} (hr : r.length ≤ 16384) (h : Scanned (fmk r ++ bs) rs) : ∃ rs', rs = r :: rs' ∧ Scanned bs rs' := by
  obtain ⟨hl, t, he, hn⟩ := h
  cases rs with
  | nil =>
    rw [flat_nil, List.nil_append] at he
    rw [← he, fone_mk r _ hr] at hn
    cases hn
  | cons r' rs =>
    have h1 := fone_mk r bs hr
    rw [he, flat_cons, List.append_assoc, fone_mk r' _ (hl r' (by simp))] at h1
    injection h1 with h1
    subst h1
    rw [flat_cons, List.append_assoc] at he
    exact ⟨rs, rfl, fun x hx => hl x (by simp [hx]), t, List.append_cancel_left he, hn⟩

/-- Records that are whole come first. -/
theorem Scanned.all (rs : List (List Nat)) (hr : ∀ r ∈ rs, r.length ≤ 16384) : ∀ {tail : List Nat} {ys : List (List Nat)}, Scanned (flat rs ++ tail) ys → ∃ zs, ys = rs ++ zs := by
  induction rs with
  | nil => exact fun {_ ys} _ => ⟨ys, rfl⟩
  | cons r rs ih =>
    intro tail ys h
    rw [flat_cons, List.append_assoc] at h
    obtain ⟨ys', rfl, h'⟩ := Scanned.some_ (hr r (by simp)) h
    obtain ⟨zs, rfl⟩ := ih (fun x hx => hr x (by simp [hx])) h'
    exact ⟨zs, rfl⟩

/-- Of records that are cut somewhere, those are read that end ahead of the cut. -/
theorem Scanned.cut (rs : List (List Nat)) (hr : ∀ r ∈ rs, r.length ≤ 16384) : ∀ {k : Nat} {ys : List (List Nat)}, k ≤ (flat rs).length → Scanned ((flat rs).take k) ys →
    ys = rs.take ys.length ∧ (flat ys).length ≤ k ∧ (ys.length < rs.length → k < (flat (rs.take (ys.length + 1))).length) := by
  induction rs with
  | nil =>
    intro k ys hk h
    have h0 := h.none_ (by rw [flat_nil, List.take_nil]; exact fone_short (by simp))
    subst h0
    exact ⟨rfl, by simp [flat_nil], by simp⟩
  | cons r rs ih =>
    intro k ys hk h
    rw [flat_cons] at h hk
    by_cases hc : k < (fmk r).length
    · have h0 := h.none_ (by rw [List.take_append_of_le_length (by omega)]; exact fone_cut r k (hr r (by simp)) hc)
      subst h0
      exact ⟨rfl, by simp [flat_nil], fun _ => by simp only [List.length_nil, Nat.zero_add, List.take_succ_cons, List.take_zero, flat_one]; exact hc⟩
    · rw [List.take_append, List.take_of_length_le (by omega)] at h
      obtain ⟨ys', rfl, h'⟩ := Scanned.some_ (hr r (by simp)) h
      rw [List.length_append] at hk
      obtain ⟨h1, h2, h3⟩ := ih (fun x hx => hr x (by simp [hx])) (by omega) h'
      refine ⟨by rw [List.length_cons, List.take_succ_cons, ← h1], by rw [flat_cons, List.length_append]; omega, fun hlt => ?_⟩
      rw [List.length_cons] at hlt ⊢
      rw [List.length_cons] at hlt
      rw [List.take_succ_cons, flat_cons, List.length_append]
      have := h3 (by omega)
      omega
end Go.Proofs.Ytgdhlkfbohjilaa
