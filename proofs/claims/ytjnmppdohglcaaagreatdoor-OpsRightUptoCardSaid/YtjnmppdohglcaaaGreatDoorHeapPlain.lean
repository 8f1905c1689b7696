/-
  Binary heaps as lists: up, down, push, pop, and what they keep. Plain words, of any program.
-/

namespace Go.Proofs.YtjnmppdohglcaaaGreatDoor
set_option linter.unusedVariables false

section
variable {α : Type} (lt : α → α → Bool) (z : α)

/-- Two elements change places. -/
def swapL (xs : List α) (i j : Nat) : List α := (xs.set i (xs.getD j z)).set j (xs.getD i z)
theorem swapL_length (xs : List α) (i j : Nat) : (swapL z xs i j).length = xs.length := by simp [swapL]
theorem swapL_getD (xs : List α) (i j k : Nat) (hi : i < xs.length) (hj : j < xs.length) : (swapL z xs i j).getD k z = if k = i then xs.getD j z else if k = j then xs.getD i z else xs.getD k z := by
  unfold swapL
  simp only [List.getD_eq_getElem?_getD, List.getElem?_set, List.length_set]
  by_cases h1 : j = k
  · subst h1
    rw [if_pos rfl, if_pos hj]
    by_cases h2 : j = i
    · subst h2; rw [if_pos rfl]; rfl
    · rw [if_neg h2, if_pos rfl]; rfl
  · rw [if_neg h1]
    by_cases h2 : i = k
    · subst h2; rw [if_pos rfl, if_pos hi, if_pos rfl]; rfl
    · rw [if_neg h2, if_neg (fun h => h2 h.symm), if_neg (fun h => h1 h.symm)]
theorem swapL_perm (xs : List α) (i j : Nat) (hi : i < xs.length) (hj : j < xs.length) : (swapL z xs i j).Perm xs := by
  unfold swapL
  have h1 : xs.getD j z = xs[j] := by simp [List.getD, hj]
  have h2 : xs.getD i z = xs[i] := by simp [List.getD, hi]
  rw [h1, h2]
  exact List.set_set_perm hi hj

/-- The smaller child of i among the first n. -/
def childL (xs : List α) (i n : Nat) : Nat := if 2 * i + 2 < n ∧ lt (xs.getD (2 * i + 2) z) (xs.getD (2 * i + 1) z) = true then 2 * i + 2 else 2 * i + 1
theorem childL_gt (xs : List α) (i n : Nat) : i < childL lt z xs i n := by unfold childL; split <;> omega
theorem childL_lt (xs : List α) (i n : Nat) (h : 2 * i + 1 < n) : childL lt z xs i n < n := by unfold childL; split <;> omega
theorem childL_up (xs : List α) (i n : Nat) : (childL lt z xs i n - 1) / 2 = i := by unfold childL; split <;> omega

def downL (xs : List α) (i n : Nat) : List α :=
  if h : 2 * i + 1 < n then
    if lt (xs.getD (childL lt z xs i n) z) (xs.getD i z) = true then downL (swapL z xs i (childL lt z xs i n)) (childL lt z xs i n) n else xs
  else xs
termination_by n - i
decreasing_by
  have := childL_gt lt z xs i n
  omega
def upL (xs : List α) (j : Nat) : List α :=
  if h : 0 < j then
    if lt (xs.getD j z) (xs.getD ((j - 1) / 2) z) = true then upL (swapL z xs ((j - 1) / 2) j) ((j - 1) / 2) else xs
  else xs
termination_by j
decreasing_by omega
def pushL (xs : List α) (v : α) : List α := upL lt z (xs ++ [v]) xs.length
/-- What is left behind a pop: the others. -/
def popL (xs : List α) : List α := (downL lt z (swapL z xs 0 (xs.length - 1)) 0 (xs.length - 1)).take (xs.length - 1)

/-- A strict order in which two may be alike. -/
structure Weak : Prop where
  asymm : ∀ a b, lt a b = true → lt b a = false
  trans : ∀ a b c, lt b a = false → lt c b = false → lt c a = false

/-- Nobody among the first n is less than the one above it, as far as that one lies from k on. -/
def HeapFrom (xs : List α) (n k : Nat) : Prop := ∀ c, 0 < c → c < n → k ≤ (c - 1) / 2 → lt (xs.getD c z) (xs.getD ((c - 1) / 2) z) = false
def Heap (xs : List α) : Prop := HeapFrom lt z xs xs.length 0
end

section
variable {α : Type} {lt : α → α → Bool} {z : α}
theorem downL_stop {xs : List α} {i n : Nat} (h : ¬ 2 * i + 1 < n) : downL lt z xs i n = xs := by rw [downL, dif_neg h]
theorem downL_keep {xs : List α} {i n : Nat} (h : 2 * i + 1 < n) (h' : lt (xs.getD (childL lt z xs i n) z) (xs.getD i z) = false) : downL lt z xs i n = xs := by
  rw [downL, dif_pos h, if_neg (by rw [h']; simp)]
theorem downL_go {xs : List α} {i n : Nat} (h : 2 * i + 1 < n) (h' : lt (xs.getD (childL lt z xs i n) z) (xs.getD i z) = true) : downL lt z xs i n = downL lt z (swapL z xs i (childL lt z xs i n)) (childL lt z xs i n) n := by
  rw [downL, dif_pos h, if_pos h']
theorem upL_top {xs : List α} : upL lt z xs 0 = xs := by rw [upL, dif_neg (by omega)]
theorem upL_keep {xs : List α} {j : Nat} (h' : lt (xs.getD j z) (xs.getD ((j - 1) / 2) z) = false) : upL lt z xs j = xs := by
  by_cases h : 0 < j
  · rw [upL, dif_pos h, if_neg (by rw [h']; simp)]
  · rw [upL, dif_neg h]
theorem upL_go {xs : List α} {j : Nat} (h : 0 < j) (h' : lt (xs.getD j z) (xs.getD ((j - 1) / 2) z) = true) : upL lt z xs j = upL lt z (swapL z xs ((j - 1) / 2) j) ((j - 1) / 2) := by
  rw [upL, dif_pos h, if_pos h']

theorem downL_length : ∀ (m : Nat) (xs : List α) (i n : Nat), n - i ≤ m → (downL lt z xs i n).length = xs.length := by
  intro m
  induction m with
  | zero => intro xs i n h; rw [downL_stop (by omega)]
  | succ m ih =>
    intro xs i n h
    by_cases h1 : 2 * i + 1 < n
    · cases h2 : lt (xs.getD (childL lt z xs i n) z) (xs.getD i z)
      · rw [downL_keep h1 h2]
      · rw [downL_go h1 h2, ih _ _ _ (by have := childL_gt lt z xs i n; omega), swapL_length]
    · rw [downL_stop h1]
theorem downL_perm : ∀ (m : Nat) (xs : List α) (i n : Nat), n - i ≤ m → n ≤ xs.length → (downL lt z xs i n).Perm xs := by
  intro m
  induction m with
  | zero => intro xs i n h hn; rw [downL_stop (by omega)]
  | succ m ih =>
    intro xs i n h hn
    by_cases h1 : 2 * i + 1 < n
    · cases h2 : lt (xs.getD (childL lt z xs i n) z) (xs.getD i z)
      · rw [downL_keep h1 h2]
      · rw [downL_go h1 h2]
        have := childL_gt lt z xs i n
        have := childL_lt lt z xs i n h1
        exact (ih _ _ _ (by omega) (by rw [swapL_length]; exact hn)).trans (swapL_perm z xs _ _ (by omega) (by omega))
    · rw [downL_stop h1]
theorem downL_beyond : ∀ (m : Nat) (xs : List α) (i n : Nat), n - i ≤ m → n ≤ xs.length → ∀ k, n ≤ k → (downL lt z xs i n).getD k z = xs.getD k z := by
  intro m
  induction m with
  | zero => intro xs i n h hn k hk; rw [downL_stop (by omega)]
  | succ m ih =>
    intro xs i n h hn k hk
    by_cases h1 : 2 * i + 1 < n
    · cases h2 : lt (xs.getD (childL lt z xs i n) z) (xs.getD i z)
      · rw [downL_keep h1 h2]
      · rw [downL_go h1 h2]
        have := childL_gt lt z xs i n
        have := childL_lt lt z xs i n h1
        rw [ih _ _ _ (by omega) (by rw [swapL_length]; exact hn) k hk, swapL_getD z xs _ _ _ (by omega) (by omega), if_neg (by omega), if_neg (by omega)]
    · rw [downL_stop h1]

theorem downL_heap (hw : Weak lt) : ∀ (m : Nat) (xs : List α) (i n k : Nat), n - i ≤ m → n ≤ xs.length → k ≤ i →
    (∀ c, 0 < c → c < n → k ≤ (c - 1) / 2 → (c - 1) / 2 ≠ i → lt (xs.getD c z) (xs.getD ((c - 1) / 2) z) = false) →
    (∀ c, 0 < c → c < n → (c - 1) / 2 = i → 0 < i → k ≤ (i - 1) / 2 → lt (xs.getD c z) (xs.getD ((i - 1) / 2) z) = false) →
    HeapFrom lt z (downL lt z xs i n) n k := by
  intro m
  induction m with
  | zero =>
    intro xs i n k h hn hk h1 h2
    rw [downL_stop (by omega)]
    intro c hc hcn hkc
    exact h1 c hc hcn hkc (by omega)
  | succ m ih =>
    intro xs i n k h hn hk h1 h2
    by_cases hs : 2 * i + 1 < n
    · have hg := childL_gt lt z xs i n
      have hl := childL_lt lt z xs i n hs
      have hu := childL_up lt z xs i n
      -- no child is less than the smaller one
      have hmin : ∀ c, 0 < c → c < n → (c - 1) / 2 = i → lt (xs.getD c z) (xs.getD (childL lt z xs i n) z) = false := by
        intro c hc hcn hci
        have hirr : ∀ a, lt a a = false := fun a => by
          cases e : lt a a
          · rfl
          · exact (hw.asymm a a e).symm.trans e |>.symm
        by_cases hp : 2 * i + 2 < n ∧ lt (xs.getD (2 * i + 2) z) (xs.getD (2 * i + 1) z) = true
        · rw [show childL lt z xs i n = 2 * i + 2 by unfold childL; rw [if_pos hp]]
          rcases (show c = 2 * i + 1 ∨ c = 2 * i + 2 by omega) with rfl | rfl
          · exact hw.asymm _ _ hp.2
          · exact hirr _
        · rw [show childL lt z xs i n = 2 * i + 1 by unfold childL; rw [if_neg hp]]
          rcases (show c = 2 * i + 1 ∨ c = 2 * i + 2 by omega) with rfl | rfl
          · exact hirr _
          · cases e : lt (xs.getD (2 * i + 2) z) (xs.getD (2 * i + 1) z)
            · rfl
            · exact absurd ⟨hcn, e⟩ hp
      obtain ⟨j, hj⟩ : ∃ j, childL lt z xs i n = j := ⟨_, rfl⟩
      cases he : lt (xs.getD (childL lt z xs i n) z) (xs.getD i z)
      · rw [downL_keep hs he]
        rw [hj] at he hmin
        intro c hc hcn hkc
        by_cases hci : (c - 1) / 2 = i
        · rw [hci]
          exact hw.trans _ _ _ he (hmin c hc hcn hci)
        · exact h1 c hc hcn hkc hci
      · rw [downL_go hs he]
        rw [hj] at he hmin hg hl hu ⊢
        have hG := fun k => swapL_getD z xs i j k (by omega) (by omega)
        refine ih _ j n k (by omega) (by rw [swapL_length]; exact hn) (by omega) ?_ ?_
        · intro c hc hcn hkc hcj
          rw [hG, hG]
          by_cases hci : (c - 1) / 2 = i
          · rw [if_neg (show ¬ c = i by omega), if_pos hci]
            by_cases hcj' : c = j
            · rw [if_pos hcj']; exact hw.asymm _ _ he
            · rw [if_neg hcj']; exact hmin c hc hcn hci
          · rw [if_neg hci, if_neg hcj]
            by_cases hc' : c = i
            · rw [if_pos hc', hc']
              exact h2 j (by omega) hl hu (by omega) (by rw [← hc']; exact hkc)
            · rw [if_neg hc', if_neg (show ¬ c = j by intro e; subst e; exact hci hu)]
              exact h1 c hc hcn hkc hci
        · intro c hc hcn hcj hj0 hkj
          rw [hG, hG, hu, if_neg (show ¬ c = i by omega), if_neg (show ¬ c = j by omega), if_pos rfl]
          have := h1 c hc hcn (by omega) (by omega)
          rw [hcj] at this
          exact this
    · rw [downL_stop hs]
      intro c hc hcn hkc
      exact h1 c hc hcn hkc (by omega)

theorem upL_length : ∀ (m : Nat) (xs : List α) (j : Nat), j ≤ m → (upL lt z xs j).length = xs.length := by
  intro m
  induction m with
  | zero =>
    intro xs j h
    obtain rfl : j = 0 := (by omega)
    rw [upL_top]
  | succ m ih =>
    intro xs j h
    by_cases h0 : 0 < j
    · cases h2 : lt (xs.getD j z) (xs.getD ((j - 1) / 2) z)
      · rw [upL_keep h2]
      · rw [upL_go h0 h2, ih _ _ (by omega), swapL_length]
    · obtain rfl : j = 0 := by omega
      rw [upL_top]
theorem upL_perm : ∀ (m : Nat) (xs : List α) (j : Nat), j ≤ m → j < xs.length → (upL lt z xs j).Perm xs := by
  intro m
  induction m with
  | zero =>
    intro xs j h hj
    obtain rfl : j = 0 := (by omega)
    rw [upL_top]
  | succ m ih =>
    intro xs j h hj
    by_cases h0 : 0 < j
    · cases h2 : lt (xs.getD j z) (xs.getD ((j - 1) / 2) z)
      · rw [upL_keep h2]
      · rw [upL_go h0 h2]
        exact (ih _ _ (by omega) (by rw [swapL_length]; omega)).trans (swapL_perm z xs _ _ (by omega) hj)
    · obtain rfl : j = 0 := by omega
      rw [upL_top]
theorem upL_heap (hw : Weak lt) : ∀ (m : Nat) (xs : List α) (j n : Nat), j ≤ m → n ≤ xs.length → j < n →
    (∀ c, 0 < c → c < n → c ≠ j → lt (xs.getD c z) (xs.getD ((c - 1) / 2) z) = false) →
    (∀ c, 0 < c → c < n → (c - 1) / 2 = j → 0 < j → lt (xs.getD c z) (xs.getD ((j - 1) / 2) z) = false) →
    HeapFrom lt z (upL lt z xs j) n 0 := by
  intro m
  induction m with
  | zero =>
    intro xs j n h hn hjn h1 _
    obtain rfl : j = 0 := by omega
    rw [upL_top]
    intro c hc hcn _
    exact h1 c hc hcn (by omega)
  | succ m ih =>
    intro xs j n h hn hjn h1 h2
    by_cases h0 : 0 < j
    · cases he : lt (xs.getD j z) (xs.getD ((j - 1) / 2) z)
      · rw [upL_keep he]
        intro c hc hcn _
        by_cases hcj : c = j
        · rw [hcj]; exact he
        · exact h1 c hc hcn hcj
      · rw [upL_go h0 he]
        obtain ⟨p, hp⟩ : ∃ p, (j - 1) / 2 = p := ⟨_, rfl⟩
        rw [hp] at he h2 ⊢
        have hG := fun k => swapL_getD z xs p j k (by omega) (by omega)
        refine ih _ p n (by omega) (by rw [swapL_length]; exact hn) (by omega) ?_ ?_
        · intro c hc hcn hcp
          rw [hG, hG, if_neg hcp]
          by_cases hcj : c = j
          · rw [if_pos hcj, if_pos (by rw [hcj]; exact hp)]
            exact hw.asymm _ _ he
          · rw [if_neg hcj]
            by_cases hc1 : (c - 1) / 2 = p
            · rw [if_pos hc1]
              have := h1 c hc hcn hcj
              rw [hc1] at this
              exact hw.trans _ _ _ (hw.asymm _ _ he) this
            · rw [if_neg hc1]
              by_cases hc2 : (c - 1) / 2 = j
              · rw [if_pos hc2]
                exact h2 c hc hcn hc2 h0
              · rw [if_neg hc2]
                exact h1 c hc hcn hcj
        · intro c hc hcn hcp hp0
          have hpp : lt (xs.getD p z) (xs.getD ((p - 1) / 2) z) = false := h1 p hp0 (by omega) (by omega)
          rw [hG, hG, if_neg (show ¬ c = p by omega), if_neg (show ¬ (p - 1) / 2 = p by omega), if_neg (show ¬ (p - 1) / 2 = j by omega)]
          by_cases hcj : c = j
          · rw [if_pos hcj]; exact hpp
          · rw [if_neg hcj]
            have := h1 c hc hcn hcj
            rw [hcp] at this
            exact hw.trans _ _ _ hpp this
    · obtain rfl : j = 0 := by omega
      rw [upL_top]
      intro c hc hcn _
      exact h1 c hc hcn (by omega)

/-- Nobody is less than the first. -/
theorem HeapFrom.top (hw : Weak lt) {xs : List α} {n : Nat} (h : HeapFrom lt z xs n 0) : ∀ m i, i ≤ m → i < n → lt (xs.getD i z) (xs.getD 0 z) = false := by
  have hirr : ∀ a, lt a a = false := fun a => by
    cases e : lt a a
    · rfl
    · exact (hw.asymm a a e).symm.trans e |>.symm
  intro m
  induction m with
  | zero =>
    intro i hi hin
    obtain rfl : i = 0 := (by omega)
    exact hirr _
  | succ m ih =>
    intro i hi hin
    by_cases h0 : 0 < i
    · exact hw.trans _ _ _ (ih ((i - 1) / 2) (by omega) (by omega)) (h i h0 hin (Nat.zero_le _))
    · obtain rfl : i = 0 := by omega
      exact hirr _

theorem pushL_length (xs : List α) (v : α) : (pushL lt z xs v).length = xs.length + 1 := by
  unfold pushL; rw [upL_length _ _ _ (Nat.le_refl _)]; simp
theorem pushL_perm (xs : List α) (v : α) : (pushL lt z xs v).Perm (xs ++ [v]) := upL_perm _ _ _ (Nat.le_refl _) (by simp)
theorem getD_snoc_lt {xs : List α} {v : α} {c : Nat} (h : c < xs.length) : (xs ++ [v]).getD c z = xs.getD c z := by
  simp [List.getD, List.getElem?_append_left h]
theorem pushL_heap (hw : Weak lt) {xs : List α} (h : Heap lt z xs) (v : α) : Heap lt z (pushL lt z xs v) := by
  unfold Heap
  rw [pushL_length]
  refine upL_heap hw _ _ _ _ (Nat.le_refl _) (by simp) (by omega) ?_ ?_
  · intro c hc hcn hcj
    rw [getD_snoc_lt (by omega), getD_snoc_lt (by omega)]
    exact h c hc (by omega) (Nat.zero_le _)
  · intro c hc hcn hcj h0
    omega

theorem popL_length (xs : List α) : (popL lt z xs).length = xs.length - 1 := by
  unfold popL
  rw [List.length_take, downL_length _ _ _ _ (Nat.le_refl _), swapL_length]
  omega
theorem getD_take {xs : List α} {n c : Nat} (h : c < n) : (xs.take n).getD c z = xs.getD c z := by
  simp [List.getD, h]
theorem popL_heap (hw : Weak lt) {xs : List α} (h : Heap lt z xs) : Heap lt z (popL lt z xs) := by
  by_cases h0 : 0 < xs.length
  · unfold Heap
    rw [popL_length]
    have hG := fun k => swapL_getD z xs 0 (xs.length - 1) k h0 (by omega)
    have hd := downL_heap (z := z) hw _ (swapL z xs 0 (xs.length - 1)) 0 (xs.length - 1) 0 (Nat.le_refl _) (by rw [swapL_length]; omega) (Nat.le_refl _) (by
      intro c hc hcn _ hc0
      rw [hG, hG, if_neg (by omega), if_neg (by omega), if_neg hc0, if_neg (by omega)]
      exact h c hc (by omega) (Nat.zero_le _)) (by intro c _ _ _ h0'; omega)
    intro c hc hcn hk
    unfold popL
    rw [getD_take hcn, getD_take (by omega)]
    exact hd c hc hcn hk
  · have hl : xs.length = 0 := by omega
    intro c hc hcn
    rw [popL_length, hl] at hcn
    omega
/-- Behind a pop: what was first, and the others. -/
theorem popL_perm {xs : List α} (h0 : 0 < xs.length) : (xs.getD 0 z :: popL lt z xs).Perm xs := by
  have hs : (swapL z xs 0 (xs.length - 1)).length = xs.length := swapL_length z xs _ _
  obtain ⟨ys, hy⟩ : ∃ ys, downL lt z (swapL z xs 0 (xs.length - 1)) 0 (xs.length - 1) = ys := ⟨_, rfl⟩
  have hp : ys.Perm xs := by
    rw [← hy]
    exact (downL_perm _ _ _ _ (Nat.le_refl _) (by rw [hs]; omega)).trans (swapL_perm z xs _ _ h0 (by omega))
  have hlen : ys.length = xs.length := hp.length_eq
  have hlast : ys.getD (xs.length - 1) z = xs.getD 0 z := by
    rw [← hy, downL_beyond _ _ _ _ (Nat.le_refl _) (by rw [hs]; omega) _ (Nat.le_refl _), swapL_getD z xs _ _ _ h0 (by omega)]
    split
    · rename_i h; rw [h]
    · rw [if_pos rfl]
  have hsplit : ys.take (xs.length - 1) ++ [xs.getD 0 z] = ys := by
    rw [← hlast]
    have hd : ys.drop (xs.length - 1) = [ys.getD (xs.length - 1) z] := by
      have hl : xs.length - 1 < ys.length := by omega
      rw [List.drop_eq_getElem_cons hl, List.drop_of_length_le (by omega)]
      simp [List.getD, hl]
    rw [← hd]
    exact List.take_append_drop _ _
  unfold popL
  rw [hy]
  have h1 : (xs.getD 0 z :: ys.take (xs.length - 1)).Perm (ys.take (xs.length - 1) ++ [xs.getD 0 z]) := (List.perm_append_singleton _ _).symm
  exact h1.trans (by rw [hsplit]; exact hp)
theorem popL_min (hw : Weak lt) {xs : List α} (h : Heap lt z xs) (h0 : 0 < xs.length) : ∀ y ∈ popL lt z xs, lt y (xs.getD 0 z) = false := by
  intro y hy
  have hm : y ∈ xs := (popL_perm h0).subset (List.mem_cons_of_mem _ hy)
  obtain ⟨i, hi, rfl⟩ := List.mem_iff_getElem.1 hm
  have := HeapFrom.top hw h i i (Nat.le_refl _) hi
  simpa [List.getD, hi] using this

/-- In order: nobody behind is less. -/
def InOrder (lt : α → α → Bool) (l : List α) : Prop := l.Pairwise fun a b => lt b a = false
/-- Taken one after another. -/
def drainL (lt : α → α → Bool) (z : α) : Nat → List α → List α
  | 0, _ => []
  | n + 1, xs => xs.getD 0 z :: drainL lt z n (popL lt z xs)
theorem drainL_perm : ∀ (n : Nat) (xs : List α), xs.length = n → (drainL lt z n xs).Perm xs := by
  intro n
  induction n with
  | zero => intro xs h; rw [List.length_eq_zero_iff.1 h]; exact List.Perm.refl _
  | succ n ih =>
    intro xs h
    unfold drainL
    exact (List.Perm.cons _ (ih _ (by rw [popL_length]; omega))).trans (popL_perm (by omega))
theorem drainL_order (hw : Weak lt) : ∀ (n : Nat) (xs : List α), xs.length = n → Heap lt z xs → InOrder lt (drainL lt z n xs) := by
  intro n
  induction n with
  | zero => intro xs _ _; exact List.Pairwise.nil
  | succ n ih =>
    intro xs h hh
    unfold drainL
    have hl : (popL lt z xs).length = n := by rw [popL_length]; omega
    refine List.Pairwise.cons ?_ (ih _ hl (popL_heap hw hh))
    intro b hb
    exact popL_min hw hh (by omega) b ((drainL_perm n _ hl).subset hb)
/-- Two lists in order of the same elements are the same, where two alike are one. -/
theorem inOrder_eq (hsame : ∀ a b, lt a b = false → lt b a = false → a = b) : ∀ (l m : List α), InOrder lt l → InOrder lt m → l.Perm m → l = m := by
  intro l
  induction l with
  | nil => intro m _ _ hp; exact hp.symm.eq_nil.symm
  | cons a l ih =>
    intro m hl hm hp
    cases m with
    | nil => exact absurd hp.eq_nil (by simp)
    | cons b m =>
      obtain ⟨ha, hl'⟩ := List.pairwise_cons.1 hl
      obtain ⟨hb, hm'⟩ := List.pairwise_cons.1 hm
      have hab : a = b := by
        have h1 : a ∈ b :: m := hp.subset (List.mem_cons_self ..)
        have h2 : b ∈ a :: l := hp.symm.subset (List.mem_cons_self ..)
        rcases List.mem_cons.1 h1 with h | h
        · exact h
        · rcases List.mem_cons.1 h2 with h' | h'
          · exact h'.symm
          · exact hsame a b (hb a h) (ha b h')
      subst hab
      rw [ih m hl' hm' (List.Perm.cons_inv hp)]
end
end Go.Proofs.YtjnmppdohglcaaaGreatDoor
