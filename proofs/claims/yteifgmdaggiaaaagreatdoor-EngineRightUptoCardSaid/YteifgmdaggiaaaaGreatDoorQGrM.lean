/-
  Binary heaps as lists: up, down, push, pop, and what they keep. Plain words, of any program.
  Which payments are due, in order: the plain words.
  Those whose time is over.
  Those whose time is over: plain words.
  Payments whose time is over are voided one by one: it comes to a tick: plain words.
  container/heap by its contracts, over a heap whose methods are known: up, down, Push, Pop.
  container/heap's Push and Pop by their contracts, over a heap of ints whose methods are known.
  A slice of integers that is the call's own: its cells, that none is frozen, and what a store into one leaves. Of any program.
  The first of the ints of a slice of the call's own, in the same memory; []int sliced.
  Append to a slice of one's own, with where the new slice lies: in the old one's row, or in a new block. Of any program.
  An append to ints of one's own, as one step of a region that draws.
  A heap of places by its methods: Len, Less, Swap, Pop, Push.
  The heap of the open payments by its contract, while it grows and while it shrinks.
  due.By by its contract.
  The program's Tick by its contract.
-/
import Derived.Test.YteifgmdaggiaaaaGreatDoorQGrB
import Derived.Test.YteifgmdaggiaaaaGreatDoorQGrE
import Derived.Test.YteifgmdaggiaaaaGreatDoorQGrA
import Derived.Test.YteifgmdaggiaaaaGreatDoorProg
import Derived.WalkKit
import Derived.Deep.RegionLaw
import Derived.BigQuiet
import Derived.BigRegion
import Derived.Deep.QuietTactic
import Derived.IntWalk
import Derived.WalkSpells
import Derived.LoopTactic
import Derived.Test.YteifgmdaggiaaaaGreatDoorQOpsDoFn
namespace Go.Proofs.YteifgmdaggiaaaaGreatDoor
set_option linter.unusedVariables false
section
variable {α : Type} (lt : α → α → Bool) (z : α)
/-- Two elements change places. -/
def swapL (xs : List α) (i j : Nat) : List α := (xs.set i (xs.getD j z)).set j (xs.getD i z)
theorem swapL_length (xs : List α) (i j : Nat) : (swapL z xs i j).length = xs.length := by simp [swapL]
theorem swapL_getD (xs : List α) (i j k : Nat) (hi : i < xs.length) (hj : j < xs.length) : (swapL z xs i j).getD k z = if k = i then xs.getD j z else if k = j then xs.getD i z else xs.getD k z := by
 unfold swapL
 simp only [List.getD_eq_getElem?_getD, List.getElem?_set, List.length_set]
 by_cases h1 : j = k
 · subst h1
   rw [if_pos rfl, if_pos hj]
   by_cases h2 : j = i
   · subst h2; rw [if_pos rfl]; rfl
   · rw [if_neg h2, if_pos rfl]; rfl
 · rw [if_neg h1]
   by_cases h2 : i = k
   · subst h2; rw [if_pos rfl, if_pos hi, if_pos rfl]; rfl
   · rw [if_neg h2, if_neg (fun h => h2 h.symm), if_neg (fun h => h1 h.symm)]
theorem swapL_perm (xs : List α) (i j : Nat) (hi : i < xs.length) (hj : j < xs.length) : (swapL z xs i j).Perm xs := by
 unfold swapL
 have h1 : xs.getD j z = xs[j] := by simp [List.getD, hj]
 have h2 : xs.getD i z = xs[i] := by simp [List.getD, hi]
 rw [h1, h2]
 exact List.set_set_perm hi hj
/-- The smaller child of i among the first n. -/
def childL (xs : List α) (i n : Nat) : Nat := if 2 * i + 2 < n ∧ lt (xs.getD (2 * i + 2) z) (xs.getD (2 * i + 1) z) = true then 2 * i + 2 else 2 * i + 1
theorem childL_gt (xs : List α) (i n : Nat) : i < childL lt z xs i n := by unfold childL; split <;> omega
theorem childL_lt (xs : List α) (i n : Nat) (h : 2 * i + 1 < n) : childL lt z xs i n < n := by unfold childL; split <;> omega
theorem childL_up (xs : List α) (i n : Nat) : (childL lt z xs i n - 1) / 2 = i := by unfold childL; split <;> omega
def downL (xs : List α) (i n : Nat) : List α :=
 if h : 2 * i + 1 < n then
  if lt (xs.getD (childL lt z xs i n) z) (xs.getD i z) = true then downL (swapL z xs i (childL lt z xs i n)) (childL lt z xs i n) n else xs
 else xs
termination_by n - i
decreasing_by
 have := childL_gt lt z xs i n
 omega
def upL (xs : List α) (j : Nat) : List α :=
 if h : 0 < j then
  if lt (xs.getD j z) (xs.getD ((j - 1) / 2) z) = true then upL (swapL z xs ((j - 1) / 2) j) ((j - 1) / 2) else xs
 else xs
termination_by j
decreasing_by omega
def pushL (xs : List α) (v : α) : List α := upL lt z (xs ++ [v]) xs.length
/-- What is left behind a pop: the others. -/
def popL (xs : List α) : List α := (downL lt z (swapL z xs 0 (xs.length - 1)) 0 (xs.length - 1)).take (xs.length - 1)
/-- A strict order in which two may be alike. -/
structure Weak : Prop where
 asymm : ∀ a b, lt a b = true → lt b a = false
 trans : ∀ a b c, lt b a = false → lt c b = false → lt c a = false
/-- Nobody among the first n is less than the one above it, as far as that one lies from k on. -/
def HeapFrom (xs : List α) (n k : Nat) : Prop := ∀ c, 0 < c → c < n → k ≤ (c - 1) / 2 → lt (xs.getD c z) (xs.getD ((c - 1) / 2) z) = false
def Heap (xs : List α) : Prop := HeapFrom lt z xs xs.length 0
end
section
variable {α : Type} {lt : α → α → Bool} {z : α}
theorem downL_stop {xs : List α} {i n : Nat} (h : ¬ 2 * i + 1 < n) : downL lt z xs i n = xs := by rw [downL, dif_neg h]
theorem downL_keep {xs : List α} {i n : Nat} (h : 2 * i + 1 < n) (h' : lt (xs.getD (childL lt z xs i n) z) (xs.getD i z) = false) : downL lt z xs i n = xs := by
 rw [downL, dif_pos h, if_neg (by rw [h']; simp)]
theorem downL_go {xs : List α} {i n : Nat} (h : 2 * i + 1 < n) (h' : lt (xs.getD (childL lt z xs i n) z) (xs.getD i z) = true) : downL lt z xs i n = downL lt z (swapL z xs i (childL lt z xs i n)) (childL lt z xs i n) n := by
 rw [downL, dif_pos h, if_pos h']
theorem upL_top {xs : List α} : upL lt z xs 0 = xs := by rw [upL, dif_neg (by omega)]
theorem upL_keep {xs : List α} {j : Nat} (h' : lt (xs.getD j z) (xs.getD ((j - 1) / 2) z) = false) : upL lt z xs j = xs := by
 by_cases h : 0 < j
 · rw [upL, dif_pos h, if_neg (by rw [h']; simp)]
 · rw [upL, dif_neg h]
theorem upL_go {xs : List α} {j : Nat} (h : 0 < j) (h' : lt (xs.getD j z) (xs.getD ((j - 1) / 2) z) = true) : upL lt z xs j = upL lt z (swapL z xs ((j - 1) / 2) j) ((j - 1) / 2) := by
 rw [upL, dif_pos h, if_pos h']
theorem downL_length : ∀ (m : Nat) (xs : List α) (i n : Nat), n - i ≤ m → (downL lt z xs i n).length = xs.length := by
 intro m
 induction m with
 | zero => intro xs i n h; rw [downL_stop (by omega)]
 | succ m ih =>
   intro xs i n h
   by_cases h1 : 2 * i + 1 < n
   · cases h2 : lt (xs.getD (childL lt z xs i n) z) (xs.getD i z)
     · rw [downL_keep h1 h2]
     · rw [downL_go h1 h2, ih _ _ _ (by have := childL_gt lt z xs i n; omega), swapL_length]
   · rw [downL_stop h1]
theorem downL_perm : ∀ (m : Nat) (xs : List α) (i n : Nat), n - i ≤ m → n ≤ xs.length → (downL lt z xs i n).Perm xs := by
 intro m
 induction m with
 | zero => intro xs i n h hn; rw [downL_stop (by omega)]
 | succ m ih =>
   intro xs i n h hn
   by_cases h1 : 2 * i + 1 < n
   · cases h2 : lt (xs.getD (childL lt z xs i n) z) (xs.getD i z)
     · rw [downL_keep h1 h2]
     · rw [downL_go h1 h2]
       have := childL_gt lt z xs i n
       have := childL_lt lt z xs i n h1
       exact (ih _ _ _ (by omega) (by rw [swapL_length]; exact hn)).trans (swapL_perm z xs _ _ (by omega) (by omega))
   · rw [downL_stop h1]
theorem downL_beyond : ∀ (m : Nat) (xs : List α) (i n : Nat), n - i ≤ m → n ≤ xs.length → ∀ k, n ≤ k → (downL lt z xs i n).getD k z = xs.getD k z := by
 intro m
 induction m with
 | zero => intro xs i n h hn k hk; rw [downL_stop (by omega)]
 | succ m ih =>
   intro xs i n h hn k hk
   by_cases h1 : 2 * i + 1 < n
   · cases h2 : lt (xs.getD (childL lt z xs i n) z) (xs.getD i z)
     · rw [downL_keep h1 h2]
     · rw [downL_go h1 h2]
       have := childL_gt lt z xs i n
       have := childL_lt lt z xs i n h1
       rw [ih _ _ _ (by omega) (by rw [swapL_length]; exact hn) k hk, swapL_getD z xs _ _ _ (by omega) (by omega), if_neg (by omega), if_neg (by omega)]
   · rw [downL_stop h1]
theorem downL_heap (hw : Weak lt) : ∀ (m : Nat) (xs : List α) (i n k : Nat), n - i ≤ m → n ≤ xs.length → k ≤ i →
  (∀ c, 0 < c → c < n → k ≤ (c - 1) / 2 → (c - 1) / 2 ≠ i → lt (xs.getD c z) (xs.getD ((c - 1) / 2) z) = false) →
  (∀ c, 0 < c → c < n → (c - 1) / 2 = i → 0 < i → k ≤ (i - 1) / 2 → lt (xs.getD c z) (xs.getD ((i - 1) / 2) z) = false) →
  HeapFrom lt z (downL lt z xs i n) n k := by
 intro m
 induction m with
 | zero =>
   intro xs i n k h hn hk h1 h2
   rw [downL_stop (by omega)]
   intro c hc hcn hkc
   exact h1 c hc hcn hkc (by omega)
 | succ m ih =>
   intro xs i n k h hn hk h1 h2
   by_cases hs : 2 * i + 1 < n
   · have hg := childL_gt lt z xs i n
     have hl := childL_lt lt z xs i n hs
     have hu := childL_up lt z xs i n
     -- no child is less than the smaller one
     have hmin : ∀ c, 0 < c → c < n → (c - 1) / 2 = i → lt (xs.getD c z) (xs.getD (childL lt z xs i n) z) = false := by
      intro c hc hcn hci
      have hirr : ∀ a, lt a a = false := fun a => by
       cases e : lt a a
       · rfl
       · exact (hw.asymm a a e).symm.trans e |>.symm
      by_cases hp : 2 * i + 2 < n ∧ lt (xs.getD (2 * i + 2) z) (xs.getD (2 * i + 1) z) = true
      · rw [show childL lt z xs i n = 2 * i + 2 by unfold childL; rw [if_pos hp]]
        rcases (show c = 2 * i + 1 ∨ c = 2 * i + 2 by omega) with rfl | rfl
        · exact hw.asymm _ _ hp.2
        · exact hirr _
      · rw [show childL lt z xs i n = 2 * i + 1 by unfold childL; rw [if_neg hp]]
        rcases (show c = 2 * i + 1 ∨ c = 2 * i + 2 by omega) with rfl | rfl
        · exact hirr _
        · cases e : lt (xs.getD (2 * i + 2) z) (xs.getD (2 * i + 1) z)
          · rfl
          · exact absurd ⟨hcn, e⟩ hp
     obtain ⟨j, hj⟩ : ∃ j, childL lt z xs i n = j := ⟨_, rfl⟩
     cases he : lt (xs.getD (childL lt z xs i n) z) (xs.getD i z)
     · rw [downL_keep hs he]
       rw [hj] at he hmin
       intro c hc hcn hkc
       by_cases hci : (c - 1) / 2 = i
       · rw [hci]
         exact hw.trans _ _ _ he (hmin c hc hcn hci)
       · exact h1 c hc hcn hkc hci
     · rw [downL_go hs he]
       rw [hj] at he hmin hg hl hu ⊢
       have hG := fun k => swapL_getD z xs i j k (by omega) (by omega)
       refine ih _ j n k (by omega) (by rw [swapL_length]; exact hn) (by omega) ?_ ?_
       · intro c hc hcn hkc hcj
         rw [hG, hG]
         by_cases hci : (c - 1) / 2 = i
         · rw [if_neg (show ¬ c = i by omega), if_pos hci]
           by_cases hcj' : c = j
           · rw [if_pos hcj']; exact hw.asymm _ _ he
           · rw [if_neg hcj']; exact hmin c hc hcn hci
         · rw [if_neg hci, if_neg hcj]
           by_cases hc' : c = i
           · rw [if_pos hc', hc']
             exact h2 j (by omega) hl hu (by omega) (by rw [← hc']; exact hkc)
           · rw [if_neg hc', if_neg (show ¬ c = j by intro e; subst e; exact hci hu)]
             exact h1 c hc hcn hkc hci
       · intro c hc hcn hcj hj0 hkj
         rw [hG, hG, hu, if_neg (show ¬ c = i by omega), if_neg (show ¬ c = j by omega), if_pos rfl]
         have := h1 c hc hcn (by omega) (by omega)
         rw [hcj] at this
         exact this
   · rw [downL_stop hs]
     intro c hc hcn hkc
     exact h1 c hc hcn hkc (by omega)
theorem upL_length : ∀ (m : Nat) (xs : List α) (j : Nat), j ≤ m → (upL lt z xs j).length = xs.length := by
 intro m
 induction m with
 | zero =>
   intro xs j h
   obtain rfl : j = 0 := (by omega)
   rw [upL_top]
 | succ m ih =>
   intro xs j h
   by_cases h0 : 0 < j
   · cases h2 : lt (xs.getD j z) (xs.getD ((j - 1) / 2) z)
     · rw [upL_keep h2]
     · rw [upL_go h0 h2, ih _ _ (by omega), swapL_length]
   · obtain rfl : j = 0 := by omega
     rw [upL_top]
theorem upL_perm : ∀ (m : Nat) (xs : List α) (j : Nat), j ≤ m → j < xs.length → (upL lt z xs j).Perm xs := by
 intro m
 induction m with
 | zero =>
   intro xs j h hj
   obtain rfl : j = 0 := (by omega)
   rw [upL_top]
 | succ m ih =>
   intro xs j h hj
   by_cases h0 : 0 < j
   · cases h2 : lt (xs.getD j z) (xs.getD ((j - 1) / 2) z)
     · rw [upL_keep h2]
     · rw [upL_go h0 h2]
       exact (ih _ _ (by omega) (by rw [swapL_length]; omega)).trans (swapL_perm z xs _ _ (by omega) hj)
   · obtain rfl : j = 0 := by omega
     rw [upL_top]
theorem upL_heap (hw : Weak lt) : ∀ (m : Nat) (xs : List α) (j n : Nat), j ≤ m → n ≤ xs.length → j < n →
  (∀ c, 0 < c → c < n → c ≠ j → lt (xs.getD c z) (xs.getD ((c - 1) / 2) z) = false) →
  (∀ c, 0 < c → c < n → (c - 1) / 2 = j → 0 < j → lt (xs.getD c z) (xs.getD ((j - 1) / 2) z) = false) →
  HeapFrom lt z (upL lt z xs j) n 0 := by
 intro m
 induction m with
 | zero =>
   intro xs j n h hn hjn h1 _
   obtain rfl : j = 0 := by omega
   rw [upL_top]
   intro c hc hcn _
   exact h1 c hc hcn (by omega)
 | succ m ih =>
   intro xs j n h hn hjn h1 h2
   by_cases h0 : 0 < j
   · cases he : lt (xs.getD j z) (xs.getD ((j - 1) / 2) z)
     · rw [upL_keep he]
       intro c hc hcn _
       by_cases hcj : c = j
       · rw [hcj]; exact he
       · exact h1 c hc hcn hcj
     · rw [upL_go h0 he]
       obtain ⟨p, hp⟩ : ∃ p, (j - 1) / 2 = p := ⟨_, rfl⟩
       rw [hp] at he h2 ⊢
       have hG := fun k => swapL_getD z xs p j k (by omega) (by omega)
       refine ih _ p n (by omega) (by rw [swapL_length]; exact hn) (by omega) ?_ ?_
       · intro c hc hcn hcp
         rw [hG, hG, if_neg hcp]
         by_cases hcj : c = j
         · rw [if_pos hcj, if_pos (by rw [hcj]; exact hp)]
           exact hw.asymm _ _ he
         · rw [if_neg hcj]
           by_cases hc1 : (c - 1) / 2 = p
           · rw [if_pos hc1]
             have := h1 c hc hcn hcj
             rw [hc1] at this
             exact hw.trans _ _ _ (hw.asymm _ _ he) this
           · rw [if_neg hc1]
             by_cases hc2 : (c - 1) / 2 = j
             · rw [if_pos hc2]
               exact h2 c hc hcn hc2 h0
             · rw [if_neg hc2]
               exact h1 c hc hcn hcj
       · intro c hc hcn hcp hp0
         have hpp : lt (xs.getD p z) (xs.getD ((p - 1) / 2) z) = false := h1 p hp0 (by omega) (by omega)
         rw [hG, hG, if_neg (show ¬ c = p by omega), if_neg (show ¬ (p - 1) / 2 = p by omega), if_neg (show ¬ (p - 1) / 2 = j by omega)]
         by_cases hcj : c = j
         · rw [if_pos hcj]; exact hpp
         · rw [if_neg hcj]
           have := h1 c hc hcn hcj
           rw [hcp] at this
           exact hw.trans _ _ _ hpp this
   · obtain rfl : j = 0 := by omega
     rw [upL_top]
     intro c hc hcn _
     exact h1 c hc hcn (by omega)
/-- Nobody is less than the first. -/
theorem HeapFrom.top (hw : Weak lt) {xs : List α} {n : Nat} (h : HeapFrom lt z xs n 0) : ∀ m i, i ≤ m → i < n → lt (xs.getD i z) (xs.getD 0 z) = false := by
 have hirr : ∀ a, lt a a = false := fun a => by
  cases e : lt a a
  · rfl
  · exact (hw.asymm a a e).symm.trans e |>.symm
 intro m
 induction m with
 | zero =>
   intro i hi hin
   obtain rfl : i = 0 := (by omega)
   exact hirr _
 | succ m ih =>
   intro i hi hin
   by_cases h0 : 0 < i
   · exact hw.trans _ _ _ (ih ((i - 1) / 2) (by omega) (by omega)) (h i h0 hin (Nat.zero_le _))
   · obtain rfl : i = 0 := by omega
     exact hirr _
theorem pushL_length (xs : List α) (v : α) : (pushL lt z xs v).length = xs.length + 1 := by
 unfold pushL; rw [upL_length _ _ _ (Nat.le_refl _)]; simp
theorem pushL_perm (xs : List α) (v : α) : (pushL lt z xs v).Perm (xs ++ [v]) := upL_perm _ _ _ (Nat.le_refl _) (by simp)
theorem getD_snoc_lt {xs : List α} {v : α} {c : Nat} (h : c < xs.length) : (xs ++ [v]).getD c z = xs.getD c z := by
 simp [List.getD, List.getElem?_append_left h]
theorem pushL_heap (hw : Weak lt) {xs : List α} (h : Heap lt z xs) (v : α) : Heap lt z (pushL lt z xs v) := by
 unfold Heap
 rw [pushL_length]
 refine upL_heap hw _ _ _ _ (Nat.le_refl _) (by simp) (by omega) ?_ ?_
 · intro c hc hcn hcj
   rw [getD_snoc_lt (by omega), getD_snoc_lt (by omega)]
   exact h c hc (by omega) (Nat.zero_le _)
 · intro c hc hcn hcj h0
   omega
theorem popL_length (xs : List α) : (popL lt z xs).length = xs.length - 1 := by
 unfold popL
 rw [List.length_take, downL_length _ _ _ _ (Nat.le_refl _), swapL_length]
 omega
theorem getD_take {xs : List α} {n c : Nat} (h : c < n) : (xs.take n).getD c z = xs.getD c z := by
 simp [List.getD, h]
theorem popL_heap (hw : Weak lt) {xs : List α} (h : Heap lt z xs) : Heap lt z (popL lt z xs) := by
 by_cases h0 : 0 < xs.length
 · unfold Heap
   rw [popL_length]
   have hG := fun k => swapL_getD z xs 0 (xs.length - 1) k h0 (by omega)
   have hd := downL_heap (z := z) hw _ (swapL z xs 0 (xs.length - 1)) 0 (xs.length - 1) 0 (Nat.le_refl _) (by rw [swapL_length]; omega) (Nat.le_refl _) (by
     intro c hc hcn _ hc0
     rw [hG, hG, if_neg (by omega), if_neg (by omega), if_neg hc0, if_neg (by omega)]
     exact h c hc (by omega) (Nat.zero_le _)) (by intro c _ _ _ h0'; omega)
   intro c hc hcn hk
   unfold popL
   rw [getD_take hcn, getD_take (by omega)]
   exact hd c hc hcn hk
 · have hl : xs.length = 0 := by omega
   intro c hc hcn
   rw [popL_length, hl] at hcn
   omega
/-- Behind a pop: what was first, and the others. -/
theorem popL_perm {xs : List α} (h0 : 0 < xs.length) : (xs.getD 0 z :: popL lt z xs).Perm xs := by
 have hs : (swapL z xs 0 (xs.length - 1)).length = xs.length := swapL_length z xs _ _
 obtain ⟨ys, hy⟩ : ∃ ys, downL lt z (swapL z xs 0 (xs.length - 1)) 0 (xs.length - 1) = ys := ⟨_, rfl⟩
 have hp : ys.Perm xs := by
  rw [← hy]
  exact (downL_perm _ _ _ _ (Nat.le_refl _) (by rw [hs]; omega)).trans (swapL_perm z xs _ _ h0 (by omega))
 have hlen : ys.length = xs.length := hp.length_eq
 have hlast : ys.getD (xs.length - 1) z = xs.getD 0 z := by
  rw [← hy, downL_beyond _ _ _ _ (Nat.le_refl _) (by rw [hs]; omega) _ (Nat.le_refl _), swapL_getD z xs _ _ _ h0 (by omega)]
  split
  · rename_i h; rw [h]
  · rw [if_pos rfl]
 have hsplit : ys.take (xs.length - 1) ++ [xs.getD 0 z] = ys := by
  rw [← hlast]
  have hd : ys.drop (xs.length - 1) = [ys.getD (xs.length - 1) z] := by
   have hl : xs.length - 1 < ys.length := by omega
   rw [List.drop_eq_getElem_cons hl, List.drop_of_length_le (by omega)]
   simp [List.getD, hl]
  rw [← hd]
  exact List.take_append_drop _ _
 unfold popL
 rw [hy]
 have h1 : (xs.getD 0 z :: ys.take (xs.length - 1)).Perm (ys.take (xs.length - 1) ++ [xs.getD 0 z]) := (List.perm_append_singleton _ _).symm
 exact h1.trans (by rw [hsplit]; exact hp)
theorem popL_min (hw : Weak lt) {xs : List α} (h : Heap lt z xs) (h0 : 0 < xs.length) : ∀ y ∈ popL lt z xs, lt y (xs.getD 0 z) = false := by
 intro y hy
 have hm : y ∈ xs := (popL_perm h0).subset (List.mem_cons_of_mem _ hy)
 obtain ⟨i, hi, rfl⟩ := List.mem_iff_getElem.1 hm
 have := HeapFrom.top hw h i i (Nat.le_refl _) hi
 simpa [List.getD, hi] using this
/-- In order: nobody behind is less. -/
def InOrder (lt : α → α → Bool) (l : List α) : Prop := l.Pairwise fun a b => lt b a = false
/-- Taken one after another. -/
def drainL (lt : α → α → Bool) (z : α) : Nat → List α → List α
 | 0, _ => []
 | n + 1, xs => xs.getD 0 z :: drainL lt z n (popL lt z xs)
theorem drainL_perm : ∀ (n : Nat) (xs : List α), xs.length = n → (drainL lt z n xs).Perm xs := by
 intro n
 induction n with
 | zero => intro xs h; rw [List.length_eq_zero_iff.1 h]; exact List.Perm.refl _
 | succ n ih =>
   intro xs h
   unfold drainL
   exact (List.Perm.cons _ (ih _ (by rw [popL_length]; omega))).trans (popL_perm (by omega))
theorem drainL_order (hw : Weak lt) : ∀ (n : Nat) (xs : List α), xs.length = n → Heap lt z xs → InOrder lt (drainL lt z n xs) := by
 intro n
 induction n with
 | zero => intro xs _ _; exact List.Pairwise.nil
 | succ n ih =>
   intro xs h hh
   unfold drainL
   have hl : (popL lt z xs).length = n := by rw [popL_length]; omega
   refine List.Pairwise.cons ?_ (ih _ hl (popL_heap hw hh))
   intro b hb
   exact popL_min hw hh (by omega) b ((drainL_perm n _ hl).subset hb)
/-- Two lists in order of the same elements are the same, where two alike are one. -/
theorem inOrder_eq (hsame : ∀ a b, lt a b = false → lt b a = false → a = b) : ∀ (l m : List α), InOrder lt l → InOrder lt m → l.Perm m → l = m := by
 intro l
 induction l with
 | nil => intro m _ _ hp; exact hp.symm.eq_nil.symm
 | cons a l ih =>
   intro m hl hm hp
   cases m with
   | nil => exact absurd hp.eq_nil (by simp)
   | cons b m =>
     obtain ⟨ha, hl'⟩ := List.pairwise_cons.1 hl
     obtain ⟨hb, hm'⟩ := List.pairwise_cons.1 hm
     have hab : a = b := by
      have h1 : a ∈ b :: m := hp.subset (List.mem_cons_self ..)
      have h2 : b ∈ a :: l := hp.symm.subset (List.mem_cons_self ..)
      rcases List.mem_cons.1 h1 with h | h
      · exact h
      · rcases List.mem_cons.1 h2 with h' | h'
        · exact h'.symm
        · exact hsame a b (hb a h) (ha b h')
     subst hab
     rw [ih m hl' hm' (List.Perm.cons_inv hp)]
end
end Go.Proofs.YteifgmdaggiaaaaGreatDoor
namespace Go.Proofs.YteifgmdaggiaaaaGreatDoor
open Go Go.RowKit
set_option linter.unusedVariables false
/-- The time of the payment at a place. -/
def tilP (ps : List Py) (a : Int) : Int := (ps.getD a.toNat Py.zero).til
/-- Whose time is over first; of two at once the one that stands first. -/
def dlt (ps : List Py) (a b : Int) : Bool := decide (tilP ps a < tilP ps b ∨ (tilP ps a = tilP ps b ∧ a < b))
theorem dlt_false {ps : List Py} {a b : Int} : dlt ps a b = false ↔ (tilP ps b < tilP ps a ∨ (tilP ps b = tilP ps a ∧ b ≤ a)) := by
 unfold dlt
 rw [decide_eq_false_iff_not]
 omega
theorem dlt_true {ps : List Py} {a b : Int} : dlt ps a b = true ↔ (tilP ps a < tilP ps b ∨ (tilP ps a = tilP ps b ∧ a < b)) := by
 unfold dlt
 rw [decide_eq_true_iff]
theorem dlt_weak (ps : List Py) : Weak (dlt ps) where
 asymm := fun a b h => by rw [dlt_true] at h; rw [dlt_false]; omega
 trans := fun a b c h1 h2 => by rw [dlt_false] at h1 h2 ⊢; omega
theorem dlt_same {ps : List Py} (a b : Int) (h1 : dlt ps a b = false) (h2 : dlt ps b a = false) : a = b := by
 rw [dlt_false] at h1 h2
 omega
/-- The places of the open ones. -/
def isOpen (ps : List Py) (a : Int) : Prop := ∃ k : Nat, k < ps.length ∧ a = (k : Int) ∧ (ps.getD k Py.zero).stg = 0
/-- A list of places is what is asked for: each open one once, and no other, in order. -/
structure DueIs (ps : List Py) (out : List Int) : Prop where
 once : out.Nodup
 order : InOrder (dlt ps) out
 mem : ∀ a, a ∈ out ↔ isOpen ps a
theorem DueIs.same {ps : List Py} {a b : List Int} (ha : DueIs ps a) (hb : DueIs ps b) : a = b :=
 inOrder_eq dlt_same a b ha.order hb.order ((List.perm_ext_iff_of_nodup ha.once hb.once).2 fun x => (ha.mem x).trans (hb.mem x).symm)
/-- Numbers below n, each once, are no more than n. -/
theorem nodup_below : ∀ (n : Nat) (l : List Int), l.Nodup → (∀ x ∈ l, ∃ k : Nat, k < n ∧ x = (k : Int)) → l.length ≤ n := by
 intro n
 induction n with
 | zero =>
   intro l _ h
   cases l with
   | nil => simp
   | cons a l => obtain ⟨k, hk, _⟩ := h a (List.mem_cons_self ..); omega
 | succ n ih =>
   intro l hn h
   by_cases hin : (n : Int) ∈ l
   · have h1 := ih (l.erase (n : Int)) (hn.erase _) (fun x hx => by
       obtain ⟨k, hk, e⟩ := h x (List.mem_of_mem_erase hx)
       refine ⟨k, ?_, e⟩
       have hne : x ≠ (n : Int) := fun e' => by
         subst e'
         exact (List.Nodup.not_mem_erase hn) hx
       omega)
     rw [List.length_erase_of_mem hin] at h1
     omega
   · have h1 := ih l hn (fun x hx => by
       obtain ⟨k, hk, e⟩ := h x hx
       refine ⟨k, ?_, e⟩
       have hne : x ≠ (n : Int) := fun e' => hin (e' ▸ hx)
       omega)
     omega
theorem DueIs.len {ps : List Py} {a : List Int} (h : DueIs ps a) : a.length ≤ ps.length :=
 nodup_below _ _ h.once fun x hx => by
  obtain ⟨k, hk, e, _⟩ := (h.mem x).1 hx
  exact ⟨k, hk, e⟩
theorem tilP_nat (ps : List Py) (k : Nat) : tilP ps (k : Int) = (ps.getD k Py.zero).til := rfl
/-- The places of the open ones among the first j. -/
def openTo (ps : List Py) (j : Nat) : List Int := ((List.range j).filter fun k => decide ((ps.getD k Py.zero).stg = 0)).map fun k : Nat => (k : Int)
theorem openTo_le (ps : List Py) (j : Nat) : (openTo ps j).length ≤ j := by
 unfold openTo
 rw [List.length_map]
 exact Nat.le_trans (List.length_filter_le _ _) (by simp)
theorem openTo_next (ps : List Py) (j : Nat) : openTo ps (j + 1) = openTo ps j ++ (if (ps.getD j Py.zero).stg = 0 then [(j : Int)] else []) := by
 unfold openTo
 rw [List.range_succ, List.filter_append, List.map_append]
 by_cases h : (ps.getD j Py.zero).stg = 0
 · rw [if_pos h, List.filter_cons_of_pos (by simpa using h)]; rfl
 · rw [if_neg h, List.filter_cons_of_neg (by simpa using h)]; rfl
theorem openTo_mem {ps : List Py} {a : Int} : a ∈ openTo ps ps.length ↔ isOpen ps a := by
 unfold openTo isOpen
 rw [List.mem_map]
 constructor
 · rintro ⟨k, hk, rfl⟩
   rw [List.mem_filter, List.mem_range] at hk
   exact ⟨k, hk.1, rfl, by simpa using hk.2⟩
 · rintro ⟨k, hk, rfl, hs⟩
   exact ⟨k, List.mem_filter.2 ⟨List.mem_range.2 hk, by simpa using hs⟩, rfl⟩
theorem openTo_once (ps : List Py) (j : Nat) : (openTo ps j).Nodup := by
 unfold openTo
 exact List.pairwise_map.2 ((List.nodup_range.filter _).imp fun {a b} h e => h (by omega))
theorem DueIs.of_perm {ps : List Py} {out : List Int} (h : out.Perm (openTo ps ps.length)) (ho : InOrder (dlt ps) out) : DueIs ps out where
 once := h.nodup_iff.2 (openTo_once _ _)
 order := ho
 mem := fun a => h.mem_iff.trans openTo_mem
/-- Those whose time is over. -/
def byL (ps : List Py) (now : Int) (out : List Int) : List Int := out.takeWhile fun a => decide (tilP ps a ≤ now)
theorem byL_nil (ps : List Py) (now : Int) : byL ps now [] = [] := rfl
theorem byL_cons (ps : List Py) (now : Int) (a : Int) (l : List Int) : byL ps now (a :: l) = if tilP ps a ≤ now then a :: byL ps now l else [] := by
 unfold byL
 rw [List.takeWhile_cons]
 by_cases h : tilP ps a ≤ now <;> simp [h]
theorem byL_len (ps : List Py) (now : Int) : ∀ l, (byL ps now l).length ≤ l.length := by
 intro l
 induction l with
 | nil => simp [byL_nil]
 | cons a l ih => rw [byL_cons]; split <;> simp <;> omega
/-- In order they are those of all whose time is over. -/
theorem byL_filter {ps : List Py} {now : Int} : ∀ l, InOrder (dlt ps) l → l.filter (fun k => decide (tilP ps k ≤ now)) = byL ps now l := by
 intro l
 induction l with
 | nil => intro _; rfl
 | cons x l ih =>
   intro h
   obtain ⟨h1, h2⟩ := List.pairwise_cons.1 h
   rw [byL_cons]
   by_cases hx : tilP ps x ≤ now
   · rw [if_pos hx, List.filter_cons_of_pos (by simpa using hx), ih h2]
   · rw [if_neg hx, List.filter_eq_nil_iff.2]
     intro y hy
     rcases List.mem_cons.1 hy with rfl | hy
     · simpa using hx
     · have := dlt_false.1 (h1 y hy)
       simp
       omega
/-- A payment, closed. -/
def shut (p : Py) : Py := ⟨p.frm, p.dst, p.aut, p.cap, p.ref, p.chg, p.til, 1⟩
theorem hpart_nn (k : Nat) {p : Py} (h : p.cap ≤ p.aut) : 0 ≤ hpart k p := by unfold hpart; split <;> omega
theorem hsum_nn (k : Nat) : ∀ ps : List Py, (∀ p ∈ ps, p.cap ≤ p.aut) → 0 ≤ hsum k ps
 | [], _ => Int.le_refl _
 | p :: r, h => by
   rw [hsum_cons]
   have h1 := hpart_nn k (h p (List.mem_cons_self ..))
   have h2 := hsum_nn k r fun q hq => h q (List.mem_cons_of_mem _ hq)
   omega
theorem hsum_ge (k : Nat) : ∀ {ps : List Py} {p : Py}, (∀ p ∈ ps, p.cap ≤ p.aut) → p ∈ ps → hpart k p ≤ hsum k ps
 | q :: r, p, h, hp => by
   rw [hsum_cons]
   rcases List.mem_cons.1 hp with rfl | hp
   · have := hsum_nn k r fun q hq => h q (List.mem_cons_of_mem _ hq)
     omega
   · have h1 := hpart_nn k (h q (List.mem_cons_self ..))
     have h2 := hsum_ge k (fun q hq => h q (List.mem_cons_of_mem _ hq)) hp
     omega
/-- Void of an open payment goes. -/
theorem Ok.void {s : St} (h : Ok s) {q : Nat} {p : Py} (hp : s.pys[q]? = some p) (ho : p.stg = 0) :
  opE s ⟨0, 5, q, 0, 0, 0, 0⟩ = 0 ∧ relE s.acs p.frm (leftP p) = 0 ∧ opS s ⟨0, 5, q, 0, 0, 0, 0⟩ = ⟨relL s.acs p.frm (leftP p), s.pys.set q (shut p), s.now⟩ := by
 have hm := List.mem_of_getElem? hp
 obtain ⟨h1, h2, h3, h4, h5⟩ := h.pays p hm
 have hq : q < s.pys.length := (List.getElem?_eq_some_iff.1 hp).1
 have hleft := h1.left
 rw [if_pos ho] at hleft
 have hcap := h5 ho
 have hpr := h1
 obtain ⟨f, hf⟩ : ∃ f : Nat, p.frm = (f : Int) := ⟨p.frm.toNat, by unfold isC at h2; omega⟩
 obtain ⟨a, ha⟩ : ∃ a, s.acs[f]? = some a := ⟨_, List.getElem?_eq_getElem (by unfold isC at h2; omega)⟩
 have hR : relE s.acs p.frm (leftP p) = 0 := by
  have hge := hsum_ge f (ps := s.pys) (fun x hx => (h.pays x hx).1.2.1.2) hm
  have hhp : hpart f p = p.aut - p.cap := by unfold hpart; rw [if_pos ⟨ho, hf⟩]
  have hh := h.held f a ha
  unfold isC at h2
  unfold Py.right at hpr
  have hM : mayE s.acs.length (f : Int) (p.aut - p.cap) = 0 := by unfold mayE; rw [if_pos (by omega), if_pos (by omega)]
  unfold relE
  rw [hleft, hf, hM, if_pos rfl, acOf_at ha, if_neg (by omega)]
 have hP : payE p 5 0 = 0 := by
  unfold payE
  rw [if_neg (by decide), if_pos rfl, if_pos ho]
 have hE : opE s ⟨0, 5, q, 0, 0, 0, 0⟩ = 0 := by
  unfold opE payOpE
  dsimp only
  rw [if_neg (by decide), if_neg (by decide), if_neg (by decide), if_neg (by decide), if_pos (by decide), if_pos (by omega), pyAt_at hp, if_pos hP]
  unfold accE
  rw [if_pos rfl, hR]
 refine ⟨hE, hR, ?_⟩
 rw [opS_yes hE]
 unfold opT
 dsimp only
 rw [if_neg (by decide), if_neg (by decide), if_neg (by decide), if_neg (by decide), pyAt_at hp, payP_5, Int.toNat_natCast]
 unfold accL
 rw [if_pos rfl]
 rfl
theorem Tryz.hLen (v : Value) (w : World) : (Go.method 406 247 v "Len").run Tryz.prog w = .ok (168, v) w := by kernel_rfl
theorem Tryz.hLess (v : Value) (w : World) : (Go.method 406 247 v "Less").run Tryz.prog w = .ok (225, v) w := by kernel_rfl
theorem Tryz.hSwap (v : Value) (w : World) : (Go.method 406 247 v "Swap").run Tryz.prog w = .ok (228, v) w := by kernel_rfl
theorem Tryz.hPush (v : Value) (w : World) : (Go.method 406 247 v "Push").run Tryz.prog w = .ok (227, v) w := by kernel_rfl
theorem Tryz.hPop (v : Value) (w : World) : (Go.method 406 247 v "Pop").run Tryz.prog w = .ok (226, v) w := by kernel_rfl
/-- A heap that the world holds, by its methods. -/
structure HeapOps (me : Value) (lt : Int → Int → Bool) (HS : World → List Int → Prop) (Rel : World → World → Prop) : Prop where
 refl : ∀ w, Rel w w
 trans : ∀ a b c, Rel a b → Rel b c → Rel a c
 small : ∀ w xs, HS w xs → xs.length ≤ 1000000000000000000
 len : ∀ w xs, HS w xs → Calls Tryz.prog 168 #[me] w fun e w' => e = .returned (.int .i64 (xs.length : Int)) ∧ HS w' xs ∧ Rel w w'
 less : ∀ w xs (i j : Nat), HS w xs → i < xs.length → j < xs.length → Calls Tryz.prog 225 #[me, .int .i64 (i : Int), .int .i64 (j : Int)] w fun e w' => e = .returned (.bool (lt (xs.getD i 0) (xs.getD j 0))) ∧ HS w' xs ∧ Rel w w'
 swap : ∀ w xs (i j : Nat), HS w xs → i < xs.length → j < xs.length → Calls Tryz.prog 228 #[me, .int .i64 (i : Int), .int .i64 (j : Int)] w fun e w' => e = .returned (.tuple #[]) ∧ HS w' (swapL 0 xs i j) ∧ Rel w w'
section
variable {me : Value} {lt : Int → Int → Bool} {HS : World → List Int → Prop} {Rel : World → World → Prop}
set_option maxRecDepth 100000 in
theorem up_any (H : HeapOps me lt HS Rel) (xs : List Int) (j : Nat) (w : World) (hs : HS w xs) (hj : j < xs.length) :
  Calls Tryz.prog 186 #[.iface 247 me, .int .i64 (j : Int)] w fun e w' => e = .returned (.tuple #[]) ∧ HS w' (upL lt 0 xs j) ∧ Rel w w' := by
 have hsm := H.small _ _ hs
 have m1 := Tryz.hLess me
 have m2 := Tryz.hSwap me
 have HH := Lib.hid H
 have HS0 := Lib.hid hs
 clear H hs
 go_enter Tryz.func186, Tryz.ntmps186
 go_wp2
 go_loopw [1] (fun v wr => ∃ (i : Nat) (ys : List Int), v = .int .i64 (i : Int) ∧ HS wr ys ∧ Rel w wr ∧ i < ys.length ∧ ys.length = xs.length ∧ upL lt 0 ys i = upL lt 0 xs j) (fun v _ => (intOf v).toNat)
 case atStart => exact ⟨j, xs, rfl, HS0.out, HH.out.refl _, hj, rfl, rfl⟩
 case round =>
  obtain ⟨i, ys, rfl, h1, h2, h3, h4, h5⟩ := hrel
  have HS1 := Lib.hid h1
  have HR1 := Lib.hid h2
  have HU := Lib.hid h5
  clear h1 h2 h5
  by_cases h0 : i = 0
  · subst h0
    go_wp2
    go_end0
    exact ⟨rfl, by rw [← HU.out, upL_top]; exact HS1.out, HR1.out⟩
  · have hi : 0 < i := by omega
    obtain ⟨q, hq⟩ : ∃ q : Nat, (i - 1) / 2 = q := ⟨_, rfl⟩
    have hq' : ((i : Int) - 1) / 2 = (q : Int) := by omega
    have hqi : q < i := by omega
    have q1 := eqF (show ¬ (q : Int) = (i : Int) by omega)
    go_wp2_with fail
    rw [hq']
    have hl := HH.out.less _ _ i q HS1.out h3 (by omega)
    obtain ⟨b, hb⟩ : ∃ b, lt (ys.getD i 0) (ys.getD q 0) = b := ⟨_, rfl⟩
    rw [hb] at hl
    have HL := Lib.hid hl
    clear hl
    refine HL.out.mono ?_
    rintro _ w1 ⟨rfl, hs1, hr1⟩
    have HS2 := Lib.hid hs1
    have HR2 := Lib.hid (HH.out.trans _ _ _ HR1.out hr1)
    clear hs1 hr1 HL HS1 HR1
    cases b
    · have HE := Lib.hid (show upL lt 0 ys i = ys from upL_keep (by rw [hq]; exact hb))
      clear hb
      go_wp2
      go_end0
      exact ⟨rfl, by rw [← HU.out, HE.out]; exact HS2.out, HR2.out⟩
    · have HE := Lib.hid (show upL lt 0 ys i = upL lt 0 (swapL 0 ys q i) q by rw [upL_go hi (by rw [hq]; exact hb), hq])
      have HW := Lib.hid (HH.out.swap _ _ q i HS2.out (by omega) h3)
      clear hb
      go_wp2_with fail
      refine HW.out.mono ?_
      rintro _ w2 ⟨rfl, hs2, hr2⟩
      have HS3 := Lib.hid hs2
      have HR3 := Lib.hid (HH.out.trans _ _ _ HR2.out hr2)
      clear hs2 hr2 HW
      go_wp2
      go_roundw
      case rel => exact ⟨q, swapL 0 ys q i, rfl, HS3.out, HR3.out, by rw [swapL_length]; omega, by rw [swapL_length]; exact h4, by rw [← HE.out]; exact HU.out⟩
      case measure => simp [intOf]; omega
set_option maxRecDepth 100000 in
set_option maxHeartbeats 1000000 in
theorem down_any (H : HeapOps me lt HS Rel) (xs : List Int) (i n : Nat) (w : World) (hs : HS w xs) (hi : i ≤ 1000000000000000000) (hn : n ≤ xs.length) :
  Calls Tryz.prog 187 #[.iface 247 me, .int .i64 (i : Int), .int .i64 (n : Int)] w fun e w' => (∃ b, e = .returned (.bool b)) ∧ HS w' (downL lt 0 xs i n) ∧ Rel w w' := by
 have hsm := H.small _ _ hs
 have m1 := Tryz.hLess me
 have m2 := Tryz.hSwap me
 have HH := Lib.hid H
 have HS0 := Lib.hid hs
 clear H hs
 go_enter Tryz.func187, Tryz.ntmps187
 go_wp2
 go_loopw [7] (fun v wr => ∃ (k : Nat) (ys : List Int), v = .int .i64 (k : Int) ∧ HS wr ys ∧ Rel w wr ∧ k ≤ 1000000000000000000 ∧ ys.length = xs.length ∧ downL lt 0 ys k n = downL lt 0 xs i n) (fun v _ => n - (intOf v).toNat)
 case atStart => exact ⟨i, xs, rfl, HS0.out, HH.out.refl _, hi, rfl, rfl⟩
 case round =>
  obtain ⟨k, ys, rfl, h1, h2, h3, h4, h5⟩ := hrel
  have HS1 := Lib.hid h1
  have HR1 := Lib.hid h2
  have HU := Lib.hid h5
  clear h1 h2 h5
  by_cases hk : 2 * k + 1 < n
  · have c1 : ¬ (n : Int) ≤ 2 * (k : Int) + 1 := by omega
    have c3 : decide (2 * (k : Int) + 1 < 0) = false := decide_eq_false (by omega)
    by_cases hk2 : 2 * k + 2 < n
    · have c2 : 2 * (k : Int) + 1 + 1 < (n : Int) := by omega
      have hl := HH.out.less _ _ (2 * k + 2) (2 * k + 1) HS1.out (by omega) (by omega)
      rw [show ((2 * k + 2 : Nat) : Int) = 2 * (k : Int) + 1 + 1 by omega, show ((2 * k + 1 : Nat) : Int) = 2 * (k : Int) + 1 by omega] at hl
      obtain ⟨b, hb⟩ : ∃ b, lt (ys.getD (2 * k + 2) 0) (ys.getD (2 * k + 1) 0) = b := ⟨_, rfl⟩
      rw [hb] at hl
      have HL := Lib.hid hl
      clear hl
      go_wp2_with fail
      refine HL.out.mono ?_
      rintro _ w1 ⟨rfl, hs1, hr1⟩
      have HS2 := Lib.hid hs1
      have HR2 := Lib.hid (HH.out.trans _ _ _ HR1.out hr1)
      clear hs1 hr1 HL HS1 HR1
      cases b
      · have hch : childL lt 0 ys k n = 2 * k + 1 := by unfold childL; rw [if_neg (by rw [hb]; simp)]
        clear hb
        have hl2 := HH.out.less _ _ (2 * k + 1) k HS2.out (by omega) (by omega)
        rw [show ((2 * k + 1 : Nat) : Int) = 2 * (k : Int) + 1 by omega] at hl2
        obtain ⟨b2, hb2⟩ : ∃ b, lt (ys.getD (2 * k + 1) 0) (ys.getD k 0) = b := ⟨_, rfl⟩
        rw [hb2] at hl2
        have HL2 := Lib.hid hl2
        clear hl2
        go_wp2_with fail
        refine HL2.out.mono ?_
        rintro _ w2 ⟨rfl, hs2, hr2⟩
        have HS3 := Lib.hid hs2
        have HR3 := Lib.hid (HH.out.trans _ _ _ HR2.out hr2)
        clear hs2 hr2 HL2
        cases b2
        · have HE := Lib.hid (show downL lt 0 ys k n = ys from downL_keep hk (by rw [hch]; exact hb2))
          clear hb2 hch
          go_wp2
          go_ret
          exact ⟨⟨_, rfl⟩, by rw [← HU.out, HE.out]; exact HS3.out, HR3.out⟩
        · have HE := Lib.hid (show downL lt 0 ys k n = downL lt 0 (swapL 0 ys k (2 * k + 1)) (2 * k + 1) n by rw [downL_go hk (by rw [hch]; exact hb2), hch])
          have hw2 := HH.out.swap _ _ k (2 * k + 1) HS3.out (by omega) (by omega)
          rw [show ((2 * k + 1 : Nat) : Int) = 2 * (k : Int) + 1 by omega] at hw2
          have HW := Lib.hid hw2
          clear hb2 hch hw2
          go_wp2_with fail
          refine HW.out.mono ?_
          rintro _ w3 ⟨rfl, hs3, hr3⟩
          have HS4 := Lib.hid hs3
          have HR4 := Lib.hid (HH.out.trans _ _ _ HR3.out hr3)
          clear hs3 hr3 HW
          go_wp2
          go_roundw
          case rel => exact ⟨2 * k + 1, swapL 0 ys k (2 * k + 1), by congr 1, HS4.out, HR4.out, by omega, by rw [swapL_length]; exact h4, by rw [← HE.out]; exact HU.out⟩
          case measure => simp [intOf]; omega
      · have hch : childL lt 0 ys k n = 2 * k + 2 := by unfold childL; rw [if_pos ⟨hk2, hb⟩]
        clear hb
        have hl2 := HH.out.less _ _ (2 * k + 2) k HS2.out (by omega) (by omega)
        rw [show ((2 * k + 2 : Nat) : Int) = 2 * (k : Int) + 1 + 1 by omega] at hl2
        obtain ⟨b2, hb2⟩ : ∃ b, lt (ys.getD (2 * k + 2) 0) (ys.getD k 0) = b := ⟨_, rfl⟩
        rw [hb2] at hl2
        have HL2 := Lib.hid hl2
        clear hl2
        go_wp2_with fail
        refine HL2.out.mono ?_
        rintro _ w2 ⟨rfl, hs2, hr2⟩
        have HS3 := Lib.hid hs2
        have HR3 := Lib.hid (HH.out.trans _ _ _ HR2.out hr2)
        clear hs2 hr2 HL2
        cases b2
        · have HE := Lib.hid (show downL lt 0 ys k n = ys from downL_keep hk (by rw [hch]; exact hb2))
          clear hb2 hch
          go_wp2
          go_ret
          exact ⟨⟨_, rfl⟩, by rw [← HU.out, HE.out]; exact HS3.out, HR3.out⟩
        · have HE := Lib.hid (show downL lt 0 ys k n = downL lt 0 (swapL 0 ys k (2 * k + 2)) (2 * k + 2) n by rw [downL_go hk (by rw [hch]; exact hb2), hch])
          have hw2 := HH.out.swap _ _ k (2 * k + 2) HS3.out (by omega) (by omega)
          rw [show ((2 * k + 2 : Nat) : Int) = 2 * (k : Int) + 1 + 1 by omega] at hw2
          have HW := Lib.hid hw2
          clear hb2 hch hw2
          go_wp2_with fail
          refine HW.out.mono ?_
          rintro _ w3 ⟨rfl, hs3, hr3⟩
          have HS4 := Lib.hid hs3
          have HR4 := Lib.hid (HH.out.trans _ _ _ HR3.out hr3)
          clear hs3 hr3 HW
          go_wp2
          go_roundw
          case rel => exact ⟨2 * k + 2, swapL 0 ys k (2 * k + 2), by congr 1, HS4.out, HR4.out, by omega, by rw [swapL_length]; exact h4, by rw [← HE.out]; exact HU.out⟩
          case measure => simp [intOf]; omega
    · have c2 : decide (2 * (k : Int) + 1 + 1 < (n : Int)) = false := decide_eq_false (by omega)
      have hch : childL lt 0 ys k n = 2 * k + 1 := by unfold childL; rw [if_neg (fun h => hk2 h.1)]
      have hl2 := HH.out.less _ _ (2 * k + 1) k HS1.out (by omega) (by omega)
      rw [show ((2 * k + 1 : Nat) : Int) = 2 * (k : Int) + 1 by omega] at hl2
      obtain ⟨b2, hb2⟩ : ∃ b, lt (ys.getD (2 * k + 1) 0) (ys.getD k 0) = b := ⟨_, rfl⟩
      rw [hb2] at hl2
      have HL2 := Lib.hid hl2
      clear hl2
      go_wp2_with fail
      refine HL2.out.mono ?_
      rintro _ w2 ⟨rfl, hs2, hr2⟩
      have HS3 := Lib.hid hs2
      have HR3 := Lib.hid (HH.out.trans _ _ _ HR1.out hr2)
      clear hs2 hr2 HL2
      cases b2
      · have HE := Lib.hid (show downL lt 0 ys k n = ys from downL_keep hk (by rw [hch]; exact hb2))
        clear hb2 hch
        go_wp2
        go_ret
        exact ⟨⟨_, rfl⟩, by rw [← HU.out, HE.out]; exact HS3.out, HR3.out⟩
      · have HE := Lib.hid (show downL lt 0 ys k n = downL lt 0 (swapL 0 ys k (2 * k + 1)) (2 * k + 1) n by rw [downL_go hk (by rw [hch]; exact hb2), hch])
        have hw2 := HH.out.swap _ _ k (2 * k + 1) HS3.out (by omega) (by omega)
        rw [show ((2 * k + 1 : Nat) : Int) = 2 * (k : Int) + 1 by omega] at hw2
        have HW := Lib.hid hw2
        clear hb2 hch hw2
        go_wp2_with fail
        refine HW.out.mono ?_
        rintro _ w3 ⟨rfl, hs3, hr3⟩
        have HS4 := Lib.hid hs3
        have HR4 := Lib.hid (HH.out.trans _ _ _ HR3.out hr3)
        clear hs3 hr3 HW
        go_wp2
        go_roundw
        case rel => exact ⟨2 * k + 1, swapL 0 ys k (2 * k + 1), by congr 1, HS4.out, HR4.out, by omega, by rw [swapL_length]; exact h4, by rw [← HE.out]; exact HU.out⟩
        case measure => simp [intOf]; omega
  · have c1 : (n : Int) ≤ 2 * (k : Int) + 1 := by omega
    have HE := Lib.hid (show downL lt 0 ys k n = ys from downL_stop hk)
    go_wp2
    go_ret
    exact ⟨⟨_, rfl⟩, by rw [← HU.out, HE.out]; exact HS1.out, HR1.out⟩
end
/-- A heap of ints that may grow by those that are ok, while it has fewer than R elements. -/
structure HeapGrow (me : Value) (lt : Int → Int → Bool) (R : Nat) (ok : Int → Prop) (HS : World → List Int → Prop) (Rel : World → World → Prop) : Prop extends HeapOps me lt HS Rel where
 push : ∀ w xs (k : Int), HS w xs → xs.length < R → ok k → Calls Tryz.prog 227 #[me, .iface 3 (.int .i64 k)] w fun e w' => e = .returned (.tuple #[]) ∧ HS w' (xs ++ [k]) ∧ Rel w w'
/-- A heap of ints that may shrink. -/
structure HeapShrink (me : Value) (lt : Int → Int → Bool) (HS : World → List Int → Prop) (Rel : World → World → Prop) : Prop extends HeapOps me lt HS Rel where
 pop : ∀ w xs, HS w xs → 0 < xs.length → Calls Tryz.prog 226 #[me] w fun e w' => e = .returned (.iface 3 (.int .i64 (xs.getD (xs.length - 1) 0))) ∧ HS w' (xs.take (xs.length - 1)) ∧ Rel w w'
section
variable {me : Value} {lt : Int → Int → Bool} {R : Nat} {ok : Int → Prop} {HS : World → List Int → Prop} {Rel : World → World → Prop}
set_option maxRecDepth 100000 in
theorem push_any (H : HeapGrow me lt R ok HS Rel) (xs : List Int) (k : Int) (w : World) (hs : HS w xs) (hr : xs.length < R) (hk : ok k) :
  Calls Tryz.prog 181 #[.iface 247 me, .iface 3 (.int .i64 k)] w fun e w' => e = .returned (.tuple #[]) ∧ HS w' (pushL lt 0 xs k) ∧ Rel w w' := by
 have hsm := H.small _ _ hs
 have m1 := Tryz.hPush me
 have m2 := Tryz.hLen me
 have HH := Lib.hid H
 have HP := Lib.hid (H.push _ _ k hs hr hk)
 clear H hs
 go_enter Tryz.func181, Tryz.ntmps181
 go_wp2_with fail
 refine HP.out.mono ?_
 rintro _ w1 ⟨rfl, hs1, hr1⟩
 have hl1 := HH.out.len _ _ hs1
 rw [List.length_append, List.length_singleton] at hl1
 have HL := Lib.hid hl1
 have HS1 := Lib.hid hs1
 have HR1 := Lib.hid hr1
 clear hl1 hs1 hr1 HP
 go_wp2_with fail
 refine HL.out.mono ?_
 rintro _ w2 ⟨rfl, hs2, hr2⟩
 have hu := up_any HH.out.toHeapOps _ xs.length w2 hs2 (by simp)
 have HU := Lib.hid hu
 have HR2 := Lib.hid (HH.out.trans _ _ _ HR1.out hr2)
 clear hs2 hr2 hu HL HS1 HR1
 go_wp2_with (first | (go_at_call 186; (try rw [show ((xs.length + 1 : Nat) : Int) - 1 = (xs.length : Int) by omega]); refine HU.out.mono ?_; rintro _ w3 ⟨rfl, hs3, hr3⟩))
 go_end0
 exact ⟨rfl, hs3, HH.out.trans _ _ _ HR2.out hr3⟩
set_option maxRecDepth 100000 in
theorem pop_any (H : HeapShrink me lt HS Rel) (xs : List Int) (w : World) (hs : HS w xs) (h0 : 0 < xs.length) :
  Calls Tryz.prog 182 #[.iface 247 me] w fun e w' => e = .returned (.iface 3 (.int .i64 (xs.getD 0 0))) ∧ HS w' (popL lt 0 xs) ∧ Rel w w' := by
 have hsm := H.small _ _ hs
 have m1 := Tryz.hLen me
 have m2 := Tryz.hSwap me
 have m3 := Tryz.hPop me
 have HH := Lib.hid H
 obtain ⟨n, hn⟩ : ∃ n, xs.length - 1 = n := ⟨_, rfl⟩
 have hn' : xs.length = n + 1 := by omega
 obtain ⟨x, hx⟩ : ∃ x, xs.getD 0 0 = x := ⟨_, rfl⟩
 rw [hx]
 have hl := H.len _ _ hs
 rw [hn'] at hl
 have HL := Lib.hid hl
 clear H hs hl
 go_enter Tryz.func182, Tryz.ntmps182
 go_wp2_with fail
 refine HL.out.mono ?_
 rintro _ w1 ⟨rfl, hs1, hr1⟩
 have hw := HH.out.swap _ _ 0 n hs1 h0 (by omega)
 rw [show ((0 : Nat) : Int) = 0 from rfl] at hw
 have HW := Lib.hid hw
 have HR1 := Lib.hid hr1
 clear hs1 hr1 HL hw
 go_wp2_with fail
 refine HW.out.mono ?_
 rintro _ w2 ⟨rfl, hs2, hr2⟩
 have hd := down_any HH.out.toHeapOps _ 0 n w2 hs2 (by omega) (by rw [swapL_length]; omega)
 rw [show ((0 : Nat) : Int) = 0 from rfl] at hd
 have HD := Lib.hid hd
 have HR2 := Lib.hid (HH.out.trans _ _ _ HR1.out hr2)
 clear hs2 hr2 hd HW HR1
 go_wp2_with fail
 refine HD.out.mono ?_
 rintro _ w3 ⟨⟨b, rfl⟩, hs3, hr3⟩
 have hlen : (downL lt 0 (swapL 0 xs 0 n) 0 n).length = n + 1 := by rw [downL_length _ _ _ _ (Nat.le_refl _), swapL_length]; exact hn'
 have hlast : (downL lt 0 (swapL 0 xs 0 n) 0 n).getD n 0 = x := by
  rw [← hx]
  rw [downL_beyond _ _ _ _ (Nat.le_refl _) (by rw [swapL_length]; omega) _ (Nat.le_refl _), swapL_getD 0 xs _ _ _ h0 (by omega)]
  split
  · rename_i h; rw [h]
  · rw [if_pos rfl]
 have hp := HH.out.pop _ _ hs3 (by omega)
 rw [hlen, Nat.add_sub_cancel, hlast] at hp
 have HP := Lib.hid hp
 have HR3 := Lib.hid (HH.out.trans _ _ _ HR2.out hr3)
 clear hs3 hr3 hp hlen hlast HD HR2
 go_wp2_with fail
 refine HP.out.mono ?_
 rintro _ w4 ⟨rfl, hs4, hr4⟩
 go_wp2
 go_ret
 exact ⟨rfl, by unfold popL; rw [hn]; exact hs4, HH.out.trans _ _ _ HR3.out hr4⟩
end
section
variable {k : IntKind} {w : World} {n cap base g : Nat} {zs : List Int} {e : TypeId} {v : Value}
theorem Own.open_ (h : Own e k w base v n zs) (hn : 0 < n) : ∃ g cap, v = .slice (some ⟨g, 0, none⟩) n cap ∧ base ≤ g ∧ g < w.heap.size ∧ n ≤ cap ∧ cap ≤ maxLen := by
 rcases h.2 with ⟨_, h0⟩ | ⟨g, cap, cur, hv, hb, hg, hnc, hcm, _⟩
 · omega
 · exact ⟨g, cap, hv, hb, (Array.getElem?_eq_some_iff.1 hg).1, hnc, hcm⟩
theorem Own.cell (h : Own e k w base (.slice (some ⟨g, 0, none⟩) n cap) n zs) {j : Nat} (hj : j < n) : w.cell? ⟨g, j, none⟩ = some (.int k (zs.getD j 0)) := by
 have h1 := World.ownsRow.cellAt h j (by omega)
 have hl := h.len
 rw [h1, List.getElem?_map, List.getElem?_eq_getElem (by omega)]
 simp [List.getD, List.getElem?_eq_getElem (show j < zs.length by omega)]
theorem Own.unfrozen (h : Own e k w base (.slice (some ⟨g, 0, none⟩) n cap) n zs) (j : Nat) : w.frozen? ⟨g, j, none⟩ = false := World.ownsRow.frozenAt h j
theorem Own.set (h : Own e k w base (.slice (some ⟨g, 0, none⟩) n cap) n zs) (j : Nat) (x : Int) : Own e k (w.setCell ⟨g, j, none⟩ (.int k x)) base (.slice (some ⟨g, 0, none⟩) n cap) n (zs.set j x) := by
 have h1 := World.ownsRow.stored h j (.int k x)
 unfold Own
 rw [List.map_set]
 exact h1.1
end
theorem Own.front {e : TypeId} {k : IntKind} {w : World} {base g n cap : Nat} {zs : List Int} (h : Own e k w base (.slice (some ⟨g, 0, none⟩) n cap) n zs) (j : Nat) (hj : j ≤ n) : Own e k w base (.slice (some ⟨g, 0, none⟩) j cap) j (zs.take j) := by
 have hl := h.len
 refine ⟨by rw [List.length_map, List.length_take]; omega, ?_⟩
 rcases h.2 with ⟨h0, _⟩ | ⟨g', cap', cur, hv, hb, hg, hnc, hcm, hs, ht⟩
 · cases h0
 · injection hv with e1 e2 e3
   injection e1 with e1
   injection e1 with e1
   subst e1 e3
   refine .inr ⟨g, cap, cur, rfl, hb, hg, by omega, hcm, hs, ?_⟩
   have h2 := congrArg (List.take (j * 1)) ht
   rw [List.take_take, Nat.min_eq_left (by omega)] at h2
   rw [h2, List.map_take, Nat.mul_one]
theorem ints_slice : Tryz.prog.underlying 64 = some (.slice (Tryz.prog.elem 64)) := by kernel_rfl
theorem ints_size (W : World) : (sizeOf (Tryz.prog.elem 64)).run Tryz.prog W = .ok 1 W := by kernel_rfl
theorem run_frontInts (W : World) (A : Option Addr) (n c k : Nat) (hk : k ≤ c) : (Instr.sliceAt 64 (.slice A n c) none (some (.int .i64 (k : Int))) none).run Tryz.prog W = .ok (.slice A k c) W := by
 rw [run_sliceAt_slice _ _ _ _ _ _ ints_slice, run_slice_h W _ _ _ _ ints_slice _ _ (by omega) (by omega), ints_size]
 have e : (A.map fun x => x.add 0) = A := by cases A <;> simp [Addr.add]
 simp [Result.andThen, sliced, e]
section
variable {P : Program} (w : World)
theorem run_append_at (k : IntKind) (bytes base : Nat) (t ty e : TypeId) (ht : P.underlying t = some (.slice e))
  (hinfo : (P.info? e).map (fun i => (i.zero, i.size, i.bytes)) = some (some (.int k 0), 1, bytes))
  (v : Value) (n : Nat) (xs : List Int) (hown : Own e k w base v n xs) (A : Option Addr) (m c : Nat) (zs : List Int) (hr : Rd k w A m zs)
  (h63 : n + m ≤ 9223372036854775807) (hfit : (5 * (n + m) + 768) * bytes ≤ 1125899906842624) (hbase : base ≤ w.heap.size) :
  ∃ v' w', (Builtin.append_ #[t, t] ty #[v, .slice A m c]).run P w = .ok v' w' ∧ Own e k w' base v' (n + m) (xs ++ zs) ∧ w.grownBy w' v.ownBlock ∧ (v'.ownBlock = v.ownBlock ∨ ∃ g, v'.ownBlock = some g ∧ w.heap.size ≤ g) := by
 obtain ⟨i, hi, hz, hsize, hby⟩ := info_parts hinfo
 have hxl := hown.len
 have hzl := hr.1
 rcases Nat.eq_zero_or_pos m with rfl | hm
 · have hzn : zs = [] := List.eq_nil_of_length_eq_zero hzl
   subst hzn
   refine ⟨v, w, ?_, by simpa using hown, World.grownBy.refl w _, .inl rfl⟩
   rcases hown.2 with ⟨rfl, rfl⟩ | ⟨g, cap, cur, rfl, _, _, hnc, _⟩
   · cases A <;> simp [Builtin.append_, run_underlying ht, sizeOf, typeInfo, hi, Builtin.lenOf, Builtin.firstCells, loadCells, loadCellsFrom]
   · cases A <;> simp [Builtin.append_, run_underlying ht, sizeOf, typeInfo, hi, Builtin.lenOf, Builtin.firstCells, loadCells, loadCellsFrom, hnc, storeCells]
 · obtain ⟨ad, rfl, hcell⟩ := hr.2 hm
   have hnews : ∀ j u, (zs.map (Value.int k))[j]? = some u → w.cell? (ad.add j) = some u := by
    intro j u hu
    have hj : j < zs.length := by have := (List.getElem?_eq_some_iff.1 hu).1; simpa using this
    rw [hcell j (by omega)]
    rw [List.getElem?_map, List.getElem?_eq_getElem hj] at hu
    simp [List.getD, List.getElem?_eq_getElem hj] at hu ⊢
    exact hu
   have hl : (zs.map (Value.int k)).length = m * i.size := by rw [hsize, List.length_map]; omega
   have h1 : ∀ u ∈ zs.map (Value.int k), u.oneCell' = true := ints_oneCell k zs
   have hcap : ∀ old, old < n + m → Builtin.nextslicecap (n + m) old * i.bytes ≤ 281474976710656 := by
    intro old ho
    rw [hby]
    have h2 := Nat.mul_le_mul_right bytes (next_le ho)
    rw [Nat.mul_assoc] at h2
    omega
   have hnew : ∀ (olds : List Int), olds.length = n → ∀ c', n + m ≤ c' → c' ≤ maxLen → ∀ wd : World, base ≤ wd.heap.size →
     Own e k (wd.alloc (.cells ((olds.map (Value.int k)).toArray ++ (zs.map (Value.int k)).toArray ++ Builtin.zeroCells (Value.int k 0).cells (c' - (n + m))) e)) base
      (.slice (some ⟨wd.heap.size, 0, none⟩) (n + m) c') (n + m) (olds ++ zs) := by
    intro olds ho c' hc1 hc2 wd hwd
    refine ⟨by simp [ho, hzl], .inr ⟨wd.heap.size, c', _, rfl, hwd, heap_alloc_new wd _, hc1, hc2, ?_, ?_⟩⟩
    · simp only [Array.size_append, List.size_toArray, List.length_map, size_zeroCells, Value.cells, ho, hzl]
      simp
      omega
    · simp only [Array.toList_append, List.map_append]
      rw [List.take_left']
      simp [ho, hzl]
   have hgr : ∀ (o : Obj) (row : Option Nat), w.grownBy (w.drew.alloc o) row := fun o row => ⟨rfl, rfl, rfl, by simp, fun j hj _ => by first | exact heap_alloc_old w.drew _ j hj | exact heap_alloc_old w.drew _ hj⟩
   rcases hown.2 with ⟨rfl, rfl⟩ | ⟨g, cap, cur, rfl, hbg, hg, hnc, hcm, hcs, htake⟩
   · have hxn : xs = [] := List.eq_nil_of_length_eq_zero hxl
     subst hxn
     have hcap0 := hcap 0 (by omega)
     rw [nextslicecap_zero (by omega)] at hcap0
     have hrun := run_append_nil (P := P) w t ty e i _ ht hi hz ad m c _ hl hnews hm (by omega) (by simpa using hcap0)
     have hge := grownCap_ge w m 0 e
     have hle := grownCap_le_maxLen w m 0 e (by simp only [maxLen]; omega)
     have hN := hnew [] rfl (grownCap w m 0 e) (by omega) hle w.drew hbase
     simp only [Nat.zero_add, List.map_nil, List.nil_append, Array.empty_append] at hN ⊢
     exact ⟨_, _, hrun, hN, hgr _ _, .inr ⟨_, rfl, Nat.le_refl _⟩⟩
   · by_cases hroom : n + m ≤ cap
     · have hfit' : n * i.size + (zs.map (Value.int k)).length ≤ cur.size := by rw [hsize, hcs, List.length_map]; omega
       have hrun := run_append_room (P := P) w t ty e i ht hi g n cap cur hg ad m c _ hl hnews h1 hroom hfit'
       refine ⟨_, _, hrun, ⟨by simp [hxl, hzl], .inr ⟨g, cap, _, rfl, hbg, setRow_heap w g cur _ e _ hg, hroom, hcm, ?_, ?_⟩⟩, ⟨rfl, rfl, rfl, by simp, fun j _ hj => setRow_other w g j _ (fun he => hj (by simp [Value.ownBlock, he]))⟩, .inl rfl⟩
       · simp only [List.size_toArray, List.length_append, List.length_take, List.length_drop, Array.length_toList]
         omega
       · rw [hsize, htake, List.map_append]
         show List.take ((n + m) * 1) ((xs.map (Value.int k) ++ zs.map (Value.int k)) ++ _) = _
         rw [List.take_left']
         simp [hxl, hzl]
     · have holds : ∀ j u, (xs.map (Value.int k))[j]? = some u → w.cell? ((⟨g, 0, none⟩ : Addr).add j) = some u := World.ownsRow.cells hown (g := g) rfl
       have hrun := run_append_grow (P := P) w t ty e i _ ht hi hz ⟨g, 0, none⟩ n cap (xs.map (Value.int k)) (by rw [hsize, List.length_map]; omega) holds ad m c _ hl hnews (by omega) (by omega) (hcap cap (by omega))
       have hge := grownCap_ge w (n + m) cap e
       have hle := grownCap_le_maxLen w (n + m) cap e (by simp only [maxLen]; omega)
       exact ⟨_, _, hrun, hnew xs hxl _ hge hle w.drew hbase, hgr _ _, .inr ⟨_, rfl, Nat.le_refl _⟩⟩
theorem wp_append_at {o : Oper} {a : Act} {K : Act → World → Prop} {Q : Exit → Act → World → Prop} (s x : Operand) (t : TypeId)
  (ho : o.op = .call { callee := .builtin .append, args := #[s, x], argTypes := #[t, t] })
  (k : IntKind) (bytes base : Nat) (e : TypeId) (ht : P.underlying t = some (.slice e))
  (hinfo : (P.info? e).map (fun i => (i.zero, i.size, i.bytes)) = some (some (.int k 0), 1, bytes))
  (v : Value) (n : Nat) (xs : List Int) (hs : a.eval s = v) (hown : Own e k w base v n xs) (A : Option Addr) (m c : Nat) (zs : List Int) (hx : a.eval x = .slice A m c) (hr : Rd k w A m zs)
  (h63 : n + m ≤ 9223372036854775807) (hfit : (5 * (n + m) + 768) * bytes ≤ 1125899906842624) (hbase : base ≤ w.heap.size)
  (h : ∀ v' w', Own e k w' base v' (n + m) (xs ++ zs) → w.grownBy w' v.ownBlock → (v'.ownBlock = v.ownBlock ∨ ∃ g, v'.ownBlock = some g ∧ w.heap.size ≤ g) → K (a.put o.dst v') w') : o.wp P a w K Q := by
 obtain ⟨v', w', hrun, h2, h3, h4⟩ := run_append_at (P := P) w k bytes base t o.type e ht hinfo v n xs hown A m c zs hr h63 hfit hbase
 unfold Oper.wp execOp
 simp only [ho, resolve, invoke, builtin, Sem.run_bind, Sem.run_pure, Result.andThen_ok, List.map_toArray, List.map_cons, List.map_nil, hs, hx, hrun]
 exact h v' w' h2 h3 h4
theorem wpList_append_at {ops : Array Oper} {rest : List Oper} {o : Oper} {a : Act} {Q : Exit → Act → World → Prop} (hgd : o.guard = none) (s x : Operand) (t : TypeId)
  (ho : o.op = .call { callee := .builtin .append, args := #[s, x], argTypes := #[t, t] })
  (k : IntKind) (bytes base : Nat) (e : TypeId) (ht : P.underlying t = some (.slice e))
  (hinfo : (P.info? e).map (fun i => (i.zero, i.size, i.bytes)) = some (some (.int k 0), 1, bytes))
  (v : Value) (n : Nat) (xs : List Int) (hs : a.eval s = v) (hown : Own e k w base v n xs) (A : Option Addr) (m c : Nat) (zs : List Int) (hx : a.eval x = .slice A m c) (hr : Rd k w A m zs)
  (h63 : n + m ≤ 9223372036854775807) (hfit : (5 * (n + m) + 768) * bytes ≤ 1125899906842624) (hbase : base ≤ w.heap.size)
  (h : ∀ v' w', Own e k w' base v' (n + m) (xs ++ zs) → w.grownBy w' v.ownBlock → (v'.ownBlock = v.ownBlock ∨ ∃ g, v'.ownBlock = some g ∧ w.heap.size ≤ g) → wpList P ops Q rest (a.put o.dst v') w') : wpList P ops Q (o :: rest) a w :=
 wpList_plain hgd fun _ hK => wp_append_at w s x t ho k bytes base e ht hinfo v n xs hs hown A m c zs hx hr h63 hfit hbase fun v' w' h2 h3 h4 => hK _ _ (h v' w' h2 h3 h4)
end
theorem step_append_ints {P : Program} {ops : Array Oper} {o : Oper} {a : Act} {w : World} {K : Act → World → Prop} {Q : Exit → Act → World → Prop} {E : Prop} (hg : o.guard = none) (s x : Operand) (t : TypeId)
  (ho : o.op = .call { callee := .builtin .append, args := #[s, x], argTypes := #[t, t] })
  (k : IntKind) (bytes base : Nat) (e : TypeId) (ht : P.underlying t = some (.slice e))
  (hinfo : (P.info? e).map (fun i => (i.zero, i.size, i.bytes)) = some (some (.int k 0), 1, bytes))
  (v : Value) (n : Nat) (xs : List Int) (hs : a.eval s = v) (hown : Own e k w base v n xs) (A : Option Addr) (m c : Nat) (zs : List Int) (hx : a.eval x = .slice A m c) (hr : Rd k w A m zs)
  (h63 : n + m ≤ 9223372036854775807) (hfit : (5 * (n + m) + 768) * bytes ≤ 1125899906842624) (hbase : base ≤ w.heap.size)
  (h : ∀ v' w', Own e k w' base v' (n + m) (xs ++ zs) → w.grownBy w' v.ownBlock → (v'.ownBlock = v.ownBlock ∨ ∃ g, v'.ownBlock = some g ∧ w.heap.size ≤ g) → K (a.put o.dst v') w') :
  if Region.wanted o (yielded ops a.tmps) = true then Oper.wp P o a w K Q else E := by
 have hw : Region.wanted o (yielded ops a.tmps) = true := by simp [Region.wanted, hg]
 rw [if_pos hw]
 exact wp_append_at w s x t ho k bytes base e ht hinfo v n xs hs hown A m c zs hx hr h63 hfit hbase h
/-- The heap's object lies at z, behind w0: what it reads of, and the places that it holds. -/
structure WHeap (w0 : World) (z : Nat) (A : Option Addr) (n cap : Nat) (ps : List Py) (w : World) (v : Value) (xs : List Int) : Prop where
 obj : w.heap[z]? = some (.cells #[.slice A n cap, v] 266 (0, 0))
 own : Own 3 .i64 w (z + 1) v xs.length xs
 below : Below w0.heap.size w0 w
 base : w0.heap.size ≤ z
 ins : ∀ x ∈ xs, ∃ k : Nat, k < n ∧ x = (k : Int)
theorem WHeap.lt {w0 : World} {z : Nat} {A : Option Addr} {n cap : Nat} {ps : List Py} {w : World} {v : Value} {xs : List Int} (h : WHeap w0 z A n cap ps w v xs) : z < w.heap.size := (Array.getElem?_eq_some_iff.1 h.obj).1
theorem WHeap.drewN {w0 : World} {z : Nat} {A : Option Addr} {n cap : Nat} {ps : List Py} {w : World} {v : Value} {xs : List Int} (h : WHeap w0 z A n cap ps w v xs) (m : Nat) : WHeap w0 z A n cap ps (w.drewN m) v xs :=
 ⟨h.obj, h.own.drewN m, below_drewN h.below m, h.base, h.ins⟩
theorem heap_other {w : World} {p : Addr} {k : Nat} (o : Value) (_ : True) (h : p.block ≠ k) : (w.setCell p o).heap[k]? = w.heap[k]? := by
 simp [World.setCell, Array.getElem?_modify, h]
section
variable {w0 : World} {z : Nat} {A : Option Addr} {n cap : Nat} {ps : List Py}
set_option maxRecDepth 100000 in
theorem hlen_any (w : World) (v : Value) (xs : List Int) (h : WHeap w0 z A n cap ps w v xs) (hn : n ≤ 2000000) (hx : xs.length ≤ 2000000) :
  Calls Tryz.prog 168 #[.pointer (some ⟨z, 0, none⟩)] w fun e w' => e = .returned (.int .i64 (xs.length : Int)) ∧ w = w' := by
 have c1 := cell_of_row w z 1 _ _ _ h.obj
 obtain ⟨B, c, rfl, hmc, hcm, hrd, hnil⟩ := h.own.form
 obtain ⟨m, hm⟩ : ∃ m, xs.length = m := ⟨_, rfl⟩
 rw [hm] at c1 ⊢
 clear h hmc hcm hrd hnil hm
 simp at c1
 go_enter Tryz.func168, Tryz.ntmps168
 go_wp2
 go_ret
 exact ⟨rfl, rfl⟩
set_option maxRecDepth 100000 in
set_option maxHeartbeats 1000000 in
theorem huntil_any (w : World) (v : Value) (xs : List Int) (h : WHeap w0 z A n cap ps w v xs) (hr : RdS pays w0 A ps) (hl : ps.length = n) (hn : n ≤ 2000000) (i : Nat) (hi : i < xs.length) :
  Calls Tryz.prog 169 #[.pointer (some ⟨z, 0, none⟩), .int .i64 (i : Int)] w fun e w' => e = .returned (.int .i64 (tilP ps (xs.getD i 0))) ∧ ∃ m, w' = w.drewN m := by
 have c0 := cell_of_row w z 0 _ _ _ h.obj
 have c1 := cell_of_row w z 1 _ _ _ h.obj
 obtain ⟨B, c, rfl, hmc, hcm, hrd, hnil⟩ := h.own.form
 obtain ⟨ad, rfl, d1⟩ := hrd.at_ hi
 have ha := h.ins (xs.getD i 0) (by simp [List.getD, hi])
 obtain ⟨a, ha', ha⟩ := ha
 rw [ha] at d1 ⊢
 have hrw := hr.below h.below
 obtain ⟨p, hp⟩ : ∃ p, ps[a]? = some p := ⟨_, List.getElem?_eq_getElem (by omega)⟩
 obtain ⟨pa, rfl, hat1⟩ := hrw.at_ hp
 obtain ⟨_, _, _, _, _, _, t1, _⟩ := pay_cells hat1
 rw [tilP_nat, show ps.getD a Py.zero = p by simp [List.getD, hp]]
 obtain ⟨m, hm⟩ : ∃ m, xs.length = m := ⟨_, rfl⟩
 rw [hm] at c1 hi hmc
 obtain ⟨pt, hpt⟩ : ∃ t, p.til = t := ⟨_, rfl⟩
 rw [hpt] at t1 ⊢
 simp at c0 c1
 clear h hr hrd hnil ha hrw hp hat1 hm hpt hl
 go_enter Tryz.func169, Tryz.ntmps169
 go_wp2
 go_quiet (fail)
 go_wp2
 go_ret
 exact ⟨rfl, _, rfl⟩
theorem dlt_def (ps : List Py) (x y : Int) : dlt ps x y = decide (tilP ps x < tilP ps y ∨ (tilP ps x = tilP ps y ∧ x < y)) := rfl
set_option maxRecDepth 100000 in
set_option maxHeartbeats 1000000 in
theorem hless_any (w : World) (v : Value) (xs : List Int) (h : WHeap w0 z A n cap ps w v xs) (hr : RdS pays w0 A ps) (hl : ps.length = n) (hn : n ≤ 2000000) (i j : Nat) (hi : i < xs.length) (hj : j < xs.length) :
  Calls Tryz.prog 225 #[.pointer (some ⟨z, 0, none⟩), .int .i64 (i : Int), .int .i64 (j : Int)] w fun e w' => e = .returned (.bool (dlt ps (xs.getD i 0) (xs.getD j 0))) ∧ ∃ m, w' = w.drewN m := by
 have HU := Lib.hid (fun m k hk => huntil_any (w.drewN m) v xs (h.drewN m) hr hl hn k hk)
 have HU0 := Lib.hid (fun k hk => huntil_any w v xs h hr hl hn k hk)
 rw [dlt_def]
 have c1 := cell_of_row w z 1 _ _ _ h.obj
 obtain ⟨B, c, rfl, hmc, hcm, hrd, hnil⟩ := h.own.form
 obtain ⟨x, hx⟩ : ∃ x, xs.getD i 0 = x := ⟨_, rfl⟩
 obtain ⟨y, hy⟩ : ∃ y, xs.getD j 0 = y := ⟨_, rfl⟩
 obtain ⟨p, hp⟩ : ∃ p, tilP ps x = p := ⟨_, rfl⟩
 obtain ⟨q, hq⟩ : ∃ q, tilP ps y = q := ⟨_, rfl⟩
 have HI := Lib.hid (show ∀ m, Calls Tryz.prog 169 #[.pointer (some ⟨z, 0, none⟩), .int .i64 (i : Int)] (w.drewN m) fun e w' => e = .returned (.int .i64 p) ∧ ∃ m, w' = w.drewN m from fun m => (HU.out m i hi).mono fun e w' ⟨he, k, hw⟩ => ⟨by rw [he, hx, hp], m + k, by rw [hw, World.drewN_drewN]⟩)
 have HI0 := Lib.hid (show Calls Tryz.prog 169 #[.pointer (some ⟨z, 0, none⟩), .int .i64 (i : Int)] w fun e w' => e = .returned (.int .i64 p) ∧ ∃ m, w' = w.drewN m from (HU0.out i hi).mono fun e w' ⟨he, k, hw⟩ => ⟨by rw [he, hx, hp], k, hw⟩)
 have HJ := Lib.hid (show ∀ m, Calls Tryz.prog 169 #[.pointer (some ⟨z, 0, none⟩), .int .i64 (j : Int)] (w.drewN m) fun e w' => e = .returned (.int .i64 q) ∧ ∃ m, w' = w.drewN m from fun m => (HU.out m j hj).mono fun e w' ⟨he, k, hw⟩ => ⟨by rw [he, hy, hq], m + k, by rw [hw, World.drewN_drewN]⟩)
 have HD := Lib.hid (show ∃ ad, B = some ad ∧ w.cell? (ad.add i) = some (.int .i64 x) ∧ w.cell? (ad.add j) = some (.int .i64 y) from by
   obtain ⟨ad, rfl, d1⟩ := hrd.at_ hi
   obtain ⟨_, e2, d2⟩ := hrd.at_ hj
   obtain rfl := Option.some.inj e2
   rw [hx] at d1
   rw [hy] at d2
   exact ⟨ad, rfl, d1, d2⟩)
 rw [hx, hy, hp, hq]
 obtain ⟨l, hl'⟩ : ∃ l, xs.length = l := ⟨_, rfl⟩
 rw [hl'] at c1 hi hj hmc
 simp at c1
 clear h hr hl hx hy hp hq hrd hnil hl' HU HU0
 by_cases hne : p = q
 · have q1 := neF hne
   rw [show decide (p < q ∨ (p = q ∧ x < y)) = decide (x < y) by simp [hne]]
   clear hne
   go_enter Tryz.func225, Tryz.ntmps225
   go_wp2_with fail
   refine HI0.out.mono ?_
   rintro _ _ ⟨rfl, m1, rfl⟩
   go_wp2_with fail
   refine (HJ.out m1).mono ?_
   rintro _ _ ⟨rfl, m2, rfl⟩
   obtain ⟨ad, rfl, d1, d2⟩ := HD.out
   clear HI HI0 HJ HD
   go_wp2
   go_quiet (fail)
   go_wp2
   go_ret
   exact ⟨rfl, _, by rw [World.drewN_drewN]⟩
 · have q1 := neT hne
   rw [show decide (p < q ∨ (p = q ∧ x < y)) = decide (p < q) by simp [hne]]
   clear hne
   go_enter Tryz.func225, Tryz.ntmps225
   go_wp2_with fail
   refine HI0.out.mono ?_
   rintro _ _ ⟨rfl, m1, rfl⟩
   go_wp2_with fail
   refine (HJ.out m1).mono ?_
   rintro _ _ ⟨rfl, m2, rfl⟩
   go_wp2_with fail
   refine (HI.out m2).mono ?_
   rintro _ _ ⟨rfl, m3, rfl⟩
   go_wp2_with fail
   refine (HJ.out m3).mono ?_
   rintro _ _ ⟨rfl, m4, rfl⟩
   go_wp2
   go_ret
   exact ⟨rfl, _, rfl⟩
set_option maxRecDepth 100000 in
set_option maxHeartbeats 1000000 in
theorem hswap_any (w : World) (v : Value) (xs : List Int) (h : WHeap w0 z A n cap ps w v xs) (hx : xs.length ≤ 2000000) (i j : Nat) (hi : i < xs.length) (hj : j < xs.length) :
  Calls Tryz.prog 228 #[.pointer (some ⟨z, 0, none⟩), .int .i64 (i : Int), .int .i64 (j : Int)] w fun e w' => e = .returned (.tuple #[]) ∧ WHeap w0 z A n cap ps w' v (swapL 0 xs i j) ∧ ∃ g, v.ownBlock = some g ∧ (∀ k, k ≠ g → w'.heap[k]? = w.heap[k]?) ∧ w'.heap.size = w.heap.size := by
 have c1 := cell_of_row w z 1 _ _ _ h.obj
 obtain ⟨g, c, rfl, hbg, hgl, hmc, hcm⟩ := h.own.open_ (by omega)
 have d1 := h.own.cell hi
 have d2 := h.own.cell hj
 have f1 := h.own.unfrozen i
 have f2 := h.own.unfrozen j
 obtain ⟨m, hm⟩ : ∃ m, xs.length = m := ⟨_, rfl⟩
 obtain ⟨a, ha⟩ : ∃ a, xs.getD i 0 = a := ⟨_, rfl⟩
 obtain ⟨b, hb⟩ : ∃ b, xs.getD j 0 = b := ⟨_, rfl⟩
 have hain : a ∈ xs := by rw [← ha]; simp [List.getD, hi]
 have hbin : b ∈ xs := by rw [← hb]; simp [List.getD, hj]
 rw [ha] at d1
 rw [hb] at d2
 have hsl : swapL 0 xs i j = (xs.set i b).set j a := by unfold swapL; rw [ha, hb]
 rw [hsl]
 have d3 := (h.own.set i b).cell hj
 obtain ⟨y, hy⟩ : ∃ y, (xs.set i b).getD j 0 = y := ⟨_, rfl⟩
 rw [hy] at d3
 clear hy
 have HH := Lib.hid h
 have HM := Lib.hid hm
 have HIN := Lib.hid (And.intro hain hbin)
 rw [hm] at c1 hi hj hmc
 simp at c1
 clear h ha hb hsl hm hain hbin
 go_enter Tryz.func228, Tryz.ntmps228
 go_wp2
 go_region
 go_wp2
 go_end0
 have hbz := HH.out.base
 refine ⟨rfl, ⟨?_, ?_, ?_, hbz, ?_⟩, g, rfl, fun k hk => ?_, by simp⟩
 · show ((w.setCell ⟨g, i, none⟩ (.int .i64 b)).setCell ⟨g, j, none⟩ (.int .i64 a)).heap[z]? = _
   rw [heap_other _ trivial (by simp; omega), heap_other _ trivial (by simp; omega)]
   exact HH.out.obj
 · rw [List.length_set, List.length_set]
   exact ((HH.out.own.set i b).set j a).drew
 · exact ((HH.out.below.setCell (p := ⟨g, i, none⟩) (by simp; omega) _).setCell (p := ⟨g, j, none⟩) (by simp; omega) _).drew
 · intro x hx
   rcases List.mem_or_eq_of_mem_set hx with hx | rfl
   · rcases List.mem_or_eq_of_mem_set hx with hx | rfl
     · exact HH.out.ins x hx
     · exact HH.out.ins _ HIN.out.2
   · exact HH.out.ins _ HIN.out.1
 · show ((w.setCell ⟨g, i, none⟩ (.int .i64 b)).setCell ⟨g, j, none⟩ (.int .i64 a)).heap[k]? = _
   rw [heap_other _ trivial (by simpa using fun h => hk h.symm), heap_other _ trivial (by simpa using fun h => hk h.symm)]
set_option maxRecDepth 100000 in
set_option maxHeartbeats 1000000 in
theorem hpop_any (w : World) (v : Value) (xs : List Int) (h : WHeap w0 z A n cap ps w v xs) (hx : xs.length ≤ 2000000) (h0 : 0 < xs.length) :
  Calls Tryz.prog 226 #[.pointer (some ⟨z, 0, none⟩)] w fun e w' => e = .returned (.iface 3 (.int .i64 (xs.getD (xs.length - 1) 0))) ∧ ∃ v', WHeap w0 z A n cap ps w' v' (xs.take (xs.length - 1)) ∧ v'.ownBlock = v.ownBlock ∧ (∀ k, k ≠ z → w'.heap[k]? = w.heap[k]?) ∧ w'.heap.size = w.heap.size := by
 have c1 := cell_of_row w z 1 _ _ _ h.obj
 have f1 := frozen_of_row w z 1 _ _ h.obj
 obtain ⟨g, c, rfl, hbg, hgl, hmc, hcm⟩ := h.own.open_ h0
 obtain ⟨m, hm⟩ : ∃ m, xs.length - 1 = m := ⟨_, rfl⟩
 have hm' : xs.length = m + 1 := by omega
 have d1 := h.own.cell (j := m) (by omega)
 obtain ⟨x, hx'⟩ : ∃ x, xs.getD m 0 = x := ⟨_, rfl⟩
 rw [hx'] at d1
 rw [hm, hx']
 have hfr := fun W => run_frontInts W (some ⟨g, 0, none⟩) (m + 1) c m (by omega)
 have HH := Lib.hid h
 have HM := Lib.hid hm'
 rw [hm'] at c1 hmc
 simp at c1
 clear h hx' hm
 go_enter Tryz.func226, Tryz.ntmps226
 go_wp2
 go_ret
 refine ⟨rfl, .slice (some ⟨g, 0, none⟩) m c, ⟨?_, ?_, ?_, HH.out.base, ?_⟩, rfl, fun k hk => heap_other _ trivial (fun h => hk h.symm), by simp⟩
 · have ho := HH.out.obj
   simp [World.setCell, Array.getElem?_modify, ho]
 · rw [List.length_take, Nat.min_eq_left (by omega)]
   have hq := HH.out.own
   rw [HM.out] at hq
   exact ownsRow_setCell_below (hq.front m (by omega)) (a := ⟨z, 1, none⟩) (by simp) _
 · exact HH.out.below.setCell (p := ⟨z, 1, none⟩) HH.out.base _
 · exact fun x hx => HH.out.ins x (List.mem_of_mem_take hx)
theorem int_assert (x : Int) (w : World) : (Instr.typeAssert (Value.iface 3 (.int .i64 x)) 20 3 false).run Tryz.prog w = .ok (.int .i64 x) w := by kernel_rfl
theorem info_int : (Tryz.prog.info? 3).map (fun i => (i.zero, i.size, i.bytes)) = some (some (.int .i64 0), 1, 8) := by kernel_rfl
theorem push_obj {w w1 : World} {v : Value} {xs : List Int} {o : Obj} (h : WHeap w0 z A n cap ps w v xs) (hg : (w.alloc o).drew.grownBy w1 v.ownBlock) : w1.heap[z]? = some (.cells #[.slice A n cap, v] 266 (0, 0)) :=
 (hg.block z (by have := h.lt; simp; omega) (fun e => by have := h.own.rowLt _ e.symm; omega)).trans ((Below.heap_alloc w o _ h.lt).trans h.obj)
theorem push_cell {w w1 : World} {v : Value} {xs : List Int} {o : Obj} (h : WHeap w0 z A n cap ps w v xs) (hg : (w.alloc o).drew.grownBy w1 v.ownBlock) : w1.cell? ⟨z, 1, none⟩ = some v := cell_of_row w1 z 1 _ _ (0, 0) (push_obj h hg)
theorem push_loose {w w1 : World} {v : Value} {xs : List Int} {o : Obj} (h : WHeap w0 z A n cap ps w v xs) (hg : (w.alloc o).drew.grownBy w1 v.ownBlock) : w1.frozen? ⟨z, 1, none⟩ = false := frozen_of_row w1 z 1 _ _ (push_obj h hg)
set_option maxRecDepth 100000 in
set_option maxHeartbeats 1000000 in
theorem hpush_any (w : World) (v : Value) (xs : List Int) (h : WHeap w0 z A n cap ps w v xs) (hx : xs.length ≤ 2000000) (q : Nat) (hq : q < n) :
  Calls Tryz.prog 227 #[.pointer (some ⟨z, 0, none⟩), .iface 3 (.int .i64 (q : Int))] w fun e w' => e = .returned (.tuple #[]) ∧ ∃ v', WHeap w0 z A n cap ps w' v' (xs ++ [(q : Int)]) ∧ w.heap.size ≤ w'.heap.size := by
 have c1 := cell_of_row w z 1 _ _ _ h.obj
 have f1 := frozen_of_row w z 1 _ _ h.obj
 obtain ⟨m, hm⟩ : ∃ m, xs.length = m := ⟨_, rfl⟩
 have ho := h.own
 rw [hm] at ho hx
 have hlt := h.lt
 have HH := Lib.hid h
 have HM := Lib.hid hm
 have HO := Lib.hid ho
 have ta := int_assert (q : Int)
 simp at c1
 clear h hm ho
 go_enter Tryz.func227, Tryz.ntmps227
 go_wp2
 go_region_law (refine step_append_ints rfl (.tmp 8) (.tmp 11) 64 rfl .i64 8 (z + 1) 3 Tryz.underlying64 info_int v m xs (by simp [Act.eval]) (HO.out.alloc _).drew (some ⟨w.heap.size, 0, none⟩) 1 1 [(q : Int)] (by simp [Act.eval]) (Rd.one (k := .i64) (w := w) (t := 3) (q : Int)) (by omega) (by omega) (by simp; omega) ?_; intro v' w1 ho' hg1 hloc
                have k1 := push_cell HH.out hg1
                have k2 := push_loose HH.out hg1
                obtain ⟨A', c', rfl, _⟩ := ho'.form
                have HO' := Lib.hid ho'
                have HG1 := Lib.hid hg1
                clear ho' hg1 hloc)
 all_goals
  go_wp2
  go_end0
  have hbz := HH.out.base
  refine ⟨rfl, .slice A' (m + 1) c', ⟨?_, ?_, ?_, hbz, ?_⟩, ?_⟩
  · have ho := push_obj HH.out HG1.out
    simp [World.setCell, Array.getElem?_modify, ho]
  · rw [List.length_append, HM.out]
    exact ownsRow_setCell_below HO'.out (a := ⟨z, 1, none⟩) (by simp) _
  · exact (((HH.out.below.alloc (by omega) _).drew).grown HG1.out (by simp; omega) (fun g hg => by have := HO.out.rowLt g hg; omega)).setCell (p := ⟨z, 1, none⟩) hbz _
  · intro x hx'
    rcases List.mem_append.1 hx' with hx' | hx'
    · exact HH.out.ins x hx'
    · simp at hx'
      exact ⟨q, hq, hx'⟩
  · have := HG1.out.size
    simp at this ⊢
    omega
end
section
variable {w0 : World} {z : Nat} {A : Option Addr} {n cap : Nat} {ps : List Py}
/-- While it grows. -/
def Grows (w0 : World) (z : Nat) (A : Option Addr) (n cap : Nat) (ps : List Py) (W : World) (xs : List Int) : Prop := xs.length ≤ 2000000 ∧ ∃ v, WHeap w0 z A n cap ps W v xs
theorem grows_ops (hr : RdS pays w0 A ps) (hl : ps.length = n) (hn : n ≤ 2000000) : HeapGrow (.pointer (some ⟨z, 0, none⟩)) (dlt ps) 2000000 (fun k => ∃ q : Nat, q < n ∧ k = (q : Int)) (Grows w0 z A n cap ps) (fun W W' => W.heap.size ≤ W'.heap.size) where
 refl := fun _ => Nat.le_refl _
 trans := fun _ _ _ => Nat.le_trans
 small := fun w xs h => by have := h.1; omega
 len := fun w xs ⟨h1, v, h⟩ => (hlen_any w v xs h hn (by omega)).mono fun e w' ⟨he, hw⟩ => ⟨he, hw ▸ ⟨h1, v, h⟩, by rw [← hw]; exact Nat.le_refl _⟩
 less := fun w xs i j ⟨h1, v, h⟩ hi hj => (hless_any w v xs h hr hl hn i j hi hj).mono fun e w' ⟨he, m, hw⟩ => ⟨he, hw ▸ ⟨h1, v, h.drewN m⟩, by rw [hw]; exact Nat.le_refl _⟩
 swap := fun w xs i j ⟨h1, v, h⟩ hi hj => (hswap_any w v xs h (by omega) i j hi hj).mono fun e w' ⟨he, h2, g, _, _, hs⟩ => ⟨he, ⟨by rw [swapL_length]; exact h1, v, h2⟩, by rw [hs]; exact Nat.le_refl _⟩
 push := fun w xs k ⟨h1, v, h⟩ hx ⟨q, hq, hk⟩ => by
  subst hk
  exact (hpush_any w v xs h (by omega) q hq).mono fun e w' ⟨he, v', h2, hs⟩ => ⟨he, ⟨by rw [List.length_append, List.length_singleton]; omega, v', h2⟩, hs⟩
/-- While it shrinks: what lies from M on is not touched. -/
def Shrinks (w0 : World) (z : Nat) (A : Option Addr) (n cap : Nat) (ps : List Py) (M : Nat) (W : World) (xs : List Int) : Prop := xs.length ≤ 2000000 ∧ z < M ∧ ∃ v, (∀ g, v.ownBlock = some g → g < M) ∧ WHeap w0 z A n cap ps W v xs
/-- Only what lies from z up to M is turned. -/
def Leaves (z M : Nat) (W W' : World) : Prop := W.heap.size ≤ W'.heap.size ∧ ∀ g, (M ≤ g ∨ g < z) → g < W.heap.size → W'.heap[g]? = W.heap[g]?
theorem shrinks_ops (hr : RdS pays w0 A ps) (hl : ps.length = n) (hn : n ≤ 2000000) (M : Nat) : HeapShrink (.pointer (some ⟨z, 0, none⟩)) (dlt ps) (Shrinks w0 z A n cap ps M) (Leaves z M) where
 refl := fun _ => ⟨Nat.le_refl _, fun _ _ _ => rfl⟩
 trans := fun a b c h1 h2 => ⟨Nat.le_trans h1.1 h2.1, fun g hg hlt => (h2.2 g hg (Nat.lt_of_lt_of_le hlt h1.1)).trans (h1.2 g hg hlt)⟩
 small := fun w xs h => by have := h.1; omega
 len := fun w xs ⟨h1, hM, v, hv, h⟩ => (hlen_any w v xs h hn (by omega)).mono fun e w' ⟨he, hw⟩ => ⟨he, hw ▸ ⟨h1, hM, v, hv, h⟩, by rw [← hw]; exact ⟨Nat.le_refl _, fun _ _ _ => rfl⟩⟩
 less := fun w xs i j ⟨h1, hM, v, hv, h⟩ hi hj => (hless_any w v xs h hr hl hn i j hi hj).mono fun e w' ⟨he, m, hw⟩ => ⟨he, hw ▸ ⟨h1, hM, v, hv, h.drewN m⟩, by rw [hw]; exact ⟨Nat.le_refl _, fun _ _ _ => rfl⟩⟩
 swap := fun w xs i j ⟨h1, hM, v, hv, h⟩ hi hj => (hswap_any w v xs h (by omega) i j hi hj).mono fun e w' ⟨he, h2, g, hg, hk, hs⟩ => ⟨he, ⟨by rw [swapL_length]; exact h1, hM, v, hv, h2⟩, by rw [hs]; exact Nat.le_refl _, fun k hkM _ => hk k (by have := hv g hg; have := h.own.rowLt g hg; omega)⟩
 pop := fun w xs ⟨h1, hM, v, hv, h⟩ h0 => (hpop_any w v xs h (by omega) h0).mono fun e w' ⟨he, v', h2, ho, hk, hs⟩ => ⟨he, ⟨by rw [List.length_take]; omega, hM, v', by rw [ho]; exact hv, h2⟩, by rw [hs]; exact Nat.le_refl _, fun k hkM _ => hk k (by omega)⟩
theorem WHeap.alloc {W : World} {v : Value} {xs : List Int} (h : WHeap w0 z A n cap ps W v xs) (o : Obj) : WHeap w0 z A n cap ps (W.alloc o) v xs :=
 ⟨(Below.heap_alloc W o _ h.lt).trans h.obj, h.own.alloc o, h.below.alloc (Nat.le_trans h.base (Nat.le_of_lt h.lt)) o, h.base, h.ins⟩
theorem WHeap.made {w0 W : World} (hb : Below w0.heap.size w0 W) (A : Option Addr) (n cap : Nat) (ps : List Py) : WHeap w0 W.heap.size A n cap ps (W.alloc (.cells #[.slice A n cap, .slice none 0 0] 266)) (.slice none 0 0) [] :=
 ⟨heap_alloc_new W _, Own.nil, hb.alloc hb.size _, hb.size, fun x h => by cases h⟩
set_option maxRecDepth 100000 in
set_option maxHeartbeats 1000000 in
theorem dnew_any {W : World} (hb : Below w0.heap.size w0 W) (hr : RdS pays w0 A ps) (hl : ps.length = n) (hn : n ≤ 2000000) :
  Calls Tryz.prog 167 #[.slice A n cap] W fun e w' => e = .returned (.pointer (some ⟨W.heap.size, 0, none⟩)) ∧ ∃ xs, Grows w0 W.heap.size A n cap ps w' xs ∧ Heap (dlt ps) 0 xs ∧ xs.Perm (openTo ps n) := by
 have HG := Lib.hid (grows_ops (z := W.heap.size) (cap := cap) hr hl (by omega))
 have HR := Lib.hid hr
 have HL := Lib.hid hl
 have HM := Lib.hid (WHeap.made hb A n cap ps)
 clear hr hl hb
 go_enter Tryz.func167, Tryz.ntmps167
 go_wp2
 go_loopw [11] (fun i wr => ∃ (k : Nat) (xs : List Int), k ≤ n ∧ i = .int .i64 (k : Int) ∧ Grows w0 W.heap.size A n cap ps wr xs ∧ Heap (dlt ps) 0 xs ∧ xs.Perm (openTo ps k)) (fun i _ => n - (intOf i).toNat)
 case atStart => exact ⟨0, [], Nat.zero_le _, rfl, ⟨by simp, _, HM.out⟩, (fun c _ h => absurd h (by simp)), List.Perm.refl _⟩
 case round =>
  obtain ⟨k, xs, hk, rfl, ⟨hx, v, hw⟩, hheap, hperm⟩ := hrel
  have HW := Lib.hid hw
  have HH := Lib.hid hheap
  have HP := Lib.hid hperm
  clear hw hheap hperm
  by_cases hlt : k < n
  · obtain ⟨p, hp⟩ : ∃ p, ps[k]? = some p := ⟨_, List.getElem?_eq_getElem (by rw [HL.out]; exact hlt)⟩
    obtain ⟨ad, rfl, hat⟩ := (HR.out.below HW.out.below).at_ hp
    obtain ⟨c0, c1, c2, c3, c4, c5, c6, c7⟩ := pay_cells hat
    have HNX := Lib.hid (show openTo ps (k + 1) = openTo ps k ++ (if p.stg = 0 then [(k : Int)] else []) by rw [openTo_next, show ps.getD k Py.zero = p by simp [List.getD, hp]])
    have HLN := Lib.hid (show xs.length ≤ k from HP.out.length_eq ▸ openTo_le ps k)
    clear hat hp
    obtain ⟨pf, pd, pa, pc, pr, pg, pt, ps'⟩ := p
    dsimp only at c0 c1 c2 c3 c4 c5 c6 c7 HNX
    by_cases hs : ps' = 0
    · have q1 := eqT hs
      rw [if_pos hs] at HNX
      have HPU := Lib.hid (push_any HG.out xs (k : Int) (wr.alloc (.cells #[.int .i64 pf, .int .i64 pd, .int .i64 pa, .int .i64 pc, .int .i64 pr, .int .i64 pg, .int .i64 pt, .int .i64 ps'] 96)) ⟨hx, v, HW.out.alloc _⟩ (by have := HLN.out; omega) ⟨k, hlt, rfl⟩)
      clear hs
      go_wp2_with fail
      refine HPU.out.mono ?_
      rintro _ w2 ⟨rfl, hg2, _⟩
      have HG2 := Lib.hid hg2
      clear hg2
      go_wp2
      go_roundw
      case rel => exact ⟨k + 1, _, by omega, by go_num, HG2.out, pushL_heap (dlt_weak ps) HH.out _, by rw [HNX.out]; exact (pushL_perm _ _).trans (HP.out.append_right _)⟩
      case measure => simp [intOf]; omega
    · have q1 := eqF hs
      rw [if_neg hs, List.append_nil] at HNX
      clear hs
      go_wp2
      go_roundw
      case rel => exact ⟨k + 1, xs, by omega, by go_num, ⟨hx, v, HW.out.alloc _⟩, HH.out, by rw [HNX.out]; exact HP.out⟩
      case measure => simp [intOf]; omega
  · obtain rfl : k = n := by omega
    go_wp2
    go_ret
    exact ⟨rfl, xs, ⟨hx, v, HW.out⟩, HH.out, HP.out⟩
end
theorem byL_take {ps : List Py} {now : Int} : ∀ (out : List Int) (j : Nat), (∀ a ∈ out.take j, tilP ps a ≤ now) → (∀ a, out[j]? = some a → now < tilP ps a) → byL ps now out = out.take j := by
 intro out
 induction out with
 | nil => intro j _ _; simp [byL_nil]
 | cons x l ih =>
   intro j h1 h2
   cases j with
   | zero => rw [byL_cons, if_neg (by have := h2 x rfl; omega)]; rfl
   | succ j =>
     rw [byL_cons, if_pos (h1 x (by simp)), List.take_succ_cons, ih j (fun a ha => h1 a (by rw [List.take_succ_cons]; exact List.mem_cons_of_mem _ ha)) (fun a ha => h2 a (by simpa using ha))]
/-- Taken so far, and the next one's time is not over. -/
theorem byL_stop {ps : List Py} {now : Int} {out l : List Int} (h : ∀ a ∈ out, tilP ps a ≤ now) (hn : ∀ a r, l = a :: r → now < tilP ps a) : byL ps now (out ++ l) = out := by
 rw [byL_take (out ++ l) out.length (fun a ha => h a (by rwa [List.take_left] at ha)) (fun a ha => ?_), List.take_left]
 rw [List.getElem?_append_right (Nat.le_refl _), Nat.sub_self] at ha
 cases l with
 | nil => cases ha
 | cons b r => injection ha with ha; exact ha ▸ hn b r rfl
theorem drain_head {ps : List Py} {xs : List Int} {m : Nat} (hm : xs.length = m) (h0 : 0 < m) : drainL (dlt ps) 0 m xs = xs.getD 0 0 :: drainL (dlt ps) 0 (m - 1) (popL (dlt ps) 0 xs) := by
 obtain ⟨m', rfl⟩ : ∃ m', m = m' + 1 := ⟨m - 1, by omega⟩
 rfl
section
variable {w0 : World} {z : Nat} {A : Option Addr} {n cap : Nat} {ps : List Py}
theorem Own.kept {z M : Nat} {e : TypeId} {k : IntKind} {w w' : World} {base n : Nat} {v : Value} {zs : List Int} (h : Own e k w base v n zs) (hv : ∀ g, v.ownBlock = some g → M ≤ g ∨ g < z) (hl : Leaves z M w w') : Own e k w' base v n zs := by
 have hr := World.ownsRow.lt h
 refine ⟨h.1, ?_⟩
 rcases h.2 with h2 | ⟨g, cap, cur, hv', hg, hh, r⟩
 · exact .inl h2
 · have e : v.ownBlock = some g := by rw [hv']; rfl
   exact .inr ⟨g, cap, cur, hv', hg, by rw [hl.2 g (hv g e) (hr g e).2]; exact hh, r⟩
theorem WHeap.grown {W W' : World} {v : Value} {xs : List Int} {M : Nat} {r : Option Nat} (h : WHeap w0 z A n cap ps W v xs) (hv : ∀ g, v.ownBlock = some g → g < M) (hM : z < M) (hr : ∀ g, r = some g → w0.heap.size ≤ g ∧ (M ≤ g ∨ g < z)) (hg : W.grownBy W' r) : WHeap w0 z A n cap ps W' v xs := by
 have hb := h.base
 have hl := World.ownsRow.lt h.own
 have hne : ∀ k, z ≤ k → k < M → some k ≠ r := fun k hz hk e => by have := (hr k e.symm).2; omega
 refine ⟨(hg.block _ h.lt (hne _ (Nat.le_refl _) hM)).trans h.obj, ?_, h.below.grown hg (Nat.le_trans hb (Nat.le_of_lt h.lt)) (fun g e => (hr g e).1), hb, h.ins⟩
 refine ⟨h.own.1, ?_⟩
 rcases h.own.2 with h2 | ⟨g, cap, cur, hvv, hgg, hh, rr⟩
 · exact .inl h2
 · have e := hv g (by rw [hvv]; rfl)
   exact .inr ⟨g, cap, cur, hvv, hgg, by rw [hg.block g (hl g (by rw [hvv]; rfl)).2 (hne g (by omega) e)]; exact hh, rr⟩
theorem Shrinks.of {W : World} {xs : List Int} (h : Grows w0 z A n cap ps W xs) : Shrinks w0 z A n cap ps W.heap.size W xs := by
 obtain ⟨h1, v, h2⟩ := h
 exact ⟨h1, h2.lt, v, fun g hg => (World.ownsRow.lt h2.own g hg).2, h2⟩
def vlen' : Value → Nat
 | .slice _ n _ => n
 | _ => 0
theorem own_vlen' {e : TypeId} {k : IntKind} {w : World} {b n : Nat} {v : Value} {zs : List Int} (h : Own e k w b v n zs) : vlen' v = n := by
 obtain ⟨A, c, rfl, _⟩ := h.form
 rfl
set_option maxRecDepth 100000 in
theorem take_any {M : Nat} (H : HeapShrink (.pointer (some ⟨z, 0, none⟩)) (dlt ps) (Shrinks w0 z A n cap ps M) (Leaves z M)) (xs : List Int) (w : World) (hs : Shrinks w0 z A n cap ps M w xs) (h0 : 0 < xs.length) :
  Calls Tryz.prog 170 #[.pointer (some ⟨z, 0, none⟩)] w fun e w' => e = .returned (.int .i64 (xs.getD 0 0)) ∧ Shrinks w0 z A n cap ps M w' (popL (dlt ps) 0 xs) ∧ Leaves z M w w' := by
 have HP := Lib.hid (pop_any H xs w hs h0)
 obtain ⟨x, hx⟩ : ∃ x, xs.getD 0 0 = x := ⟨_, rfl⟩
 rw [hx] at HP ⊢
 have ta := int_assert x
 clear H hs hx
 go_enter Tryz.func170, Tryz.ntmps170
 go_wp2_with fail
 refine HP.out.mono ?_
 rintro _ w3 ⟨rfl, hs3, hle3⟩
 have HS3 := Lib.hid hs3
 have HL3 := Lib.hid hle3
 clear hs3 hle3 HP
 go_wp2
 go_ret
 exact ⟨rfl, HS3.out, HL3.out⟩
theorem suntil_any {M : Nat} (hr : RdS pays w0 A ps) (hl : ps.length = n) (hn : n ≤ 2000000) (xs : List Int) (w : World) (hs : Shrinks w0 z A n cap ps M w xs) (h0 : 0 < xs.length) :
  Calls Tryz.prog 169 #[.pointer (some ⟨z, 0, none⟩), .int .i64 0] w fun e w' => e = .returned (.int .i64 (tilP ps (xs.getD 0 0))) ∧ Shrinks w0 z A n cap ps M w' xs ∧ Leaves z M w w' := by
 obtain ⟨h1, hM, v, hv, h⟩ := hs
 refine (huntil_any w v xs h hr hl (by omega) 0 h0).mono ?_
 rintro _ _ ⟨rfl, m, rfl⟩
 exact ⟨rfl, ⟨h1, hM, v, hv, h.drewN m⟩, Nat.le_refl _, fun _ _ _ => rfl⟩
theorem WHeap.weaken {W0 W : World} {v : Value} {xs : List Int} (h : WHeap W0 z A n cap ps W v xs) (hb : Below w0.heap.size w0 W0) : WHeap w0 z A n cap ps W v xs :=
 ⟨h.obj, h.own, hb.trans (h.below.mono hb.size), Nat.le_trans hb.size h.base, h.ins⟩
theorem Grows.weaken {W0 W : World} {xs : List Int} (h : Grows W0 z A n cap ps W xs) (hb : Below w0.heap.size w0 W0) : Grows w0 z A n cap ps W xs := by
 obtain ⟨h1, v, h2⟩ := h
 exact ⟨h1, v, h2.weaken hb⟩
theorem Grows.below {W : World} {xs : List Int} (h : Grows w0 z A n cap ps W xs) : Below w0.heap.size w0 W := by
 obtain ⟨_, _, h⟩ := h
 exact h.below
theorem Grows.lt {W : World} {xs : List Int} (h : Grows w0 z A n cap ps W xs) : z < W.heap.size := by
 obtain ⟨_, _, h⟩ := h
 exact h.lt
/-- A slice written out with nothing in it. -/
theorem Own.none_yet (w : World) : Own 3 .i64 (w.alloc (.cells #[] 3)) w.heap.size (.slice (some ⟨w.heap.size, 0, none⟩) 0 0) 0 [] :=
 World.ownsRow_made w #[] 0 (Nat.le_refl _) (Nat.zero_le _) rfl
set_option maxRecDepth 100000 in
set_option maxHeartbeats 1000000 in
theorem fn_by (now : Int) (hr : RdS pays w0 A ps) (hl : ps.length = n) (hn : n ≤ 2000000) :
  Calls Tryz.prog 149 #[.slice A n cap, .int .i64 now] w0 fun e w' => ∃ v out, e = .returned v ∧ DueIs ps out ∧ Own 3 .i64 w' w0.heap.size v (byL ps now out).length (byL ps now out) ∧ Below w0.heap.size w0 w' := by
 have HB0 := Lib.hid ((Below.refl w0.heap.size w0).alloc (Nat.le_refl _) (.cells #[] 3))
 have HNW := Lib.hid (dnew_any (w0 := w0.alloc (.cells #[] 3)) (cap := cap) (Below.refl _ _) (hr.alloc _) hl hn)
 have HO0 := Lib.hid (Own.none_yet w0)
 have hz0 : w0.heap.size < (w0.alloc (.cells #[] 3)).heap.size := by simp
 have HR := Lib.hid hr
 have HL := Lib.hid hl
 clear hr hl
 go_enter Tryz.func149, Tryz.ntmps149
 go_wp2_with fail
 obtain ⟨W0, hW0⟩ : ∃ W0, w0.alloc (.cells #[] 3) = W0 := ⟨_, rfl⟩
 rw [hW0] at HB0 HNW HO0 hz0 ⊢
 clear hW0
 refine HNW.out.mono ?_
 rintro _ w1 ⟨rfl, x0, hg, hh, hp⟩
 obtain ⟨z, hz⟩ : ∃ z, W0.heap.size = z := ⟨_, rfl⟩
 have ho1 := HO0.out.below hg.below
 rw [hz] at hg hz0 ⊢
 have hg2 := hg.weaken HB0.out
 have HS0 := Lib.hid (Shrinks.of hg2)
 have HH0 := Lib.hid hh
 have HP := Lib.hid hp
 have HO1 := Lib.hid ho1
 obtain ⟨M, hM⟩ : ∃ M, w1.heap.size = M := ⟨_, rfl⟩
 rw [hM] at HS0
 have HOPS := Lib.hid (shrinks_ops (z := z) (cap := cap) HR.out HL.out (by omega) M)
 have hx0 := hg.1
 obtain ⟨N, hN⟩ : ∃ N, x0.length = N := ⟨_, rfl⟩
 rw [hN] at hx0
 have HN := Lib.hid hN
 have hM1 : z < M := by rw [← hM]; exact hg.lt
 have hM2 : M ≤ w1.heap.size := by omega
 clear hg hg2 hh hp hN HNW hM ho1 HO0 HB0 hz
 go_wp2
 go_loopw [5] (fun v wr => ∃ (xs out : List Int), Shrinks w0 z A n cap ps M wr xs ∧ Heap (dlt ps) 0 xs ∧ Own 3 .i64 wr w0.heap.size v out.length out ∧ (∀ g, v.ownBlock = some g → M ≤ g ∨ g < z) ∧ out ++ drainL (dlt ps) 0 xs.length xs = drainL (dlt ps) 0 N x0 ∧ out.length + xs.length = N ∧ M ≤ wr.heap.size ∧ (∀ a ∈ out, tilP ps a ≤ now)) (fun v _ => N - vlen' v)
 case atStart => exact ⟨x0, [], HS0.out, HH0.out, HO1.out, (fun g hg => by injection hg with hg; exact .inr (hg ▸ hz0)), by rw [HN.out]; rfl, by rw [HN.out]; simp, hM2, fun a h => by cases h⟩
 case round =>
  obtain ⟨xs, out, hs, hh, ho, hv, he, hlen, hMr, hov⟩ := hrel
  have HS := Lib.hid hs
  have HH := Lib.hid hh
  have HO := Lib.hid ho
  have HV := Lib.hid hv
  have HE := Lib.hid he
  have HLEN := Lib.hid hlen
  have HOV := Lib.hid hov
  have HDUE := Lib.hid (show DueIs ps (drainL (dlt ps) 0 N x0) from DueIs.of_perm ((drainL_perm N x0 HN.out).trans (HL.out ▸ HP.out)) (drainL_order (dlt_weak ps) N x0 HN.out HH0.out))
  have hlr := HOPS.out.len _ _ hs
  obtain ⟨m, hm⟩ : ∃ m, xs.length = m := ⟨_, rfl⟩
  rw [hm] at hlr
  have HLR := Lib.hid hlr
  have HM := Lib.hid hm
  have hm3 : m ≤ 2000000 := by rw [← hm]; exact hs.1
  clear hs hh ho hv he hlen hlr hm hov
  go_wp2_with fail
  refine HLR.out.mono ?_
  rintro _ w2 ⟨rfl, hs2, hle2⟩
  have HS2 := Lib.hid hs2
  have HO2 := Lib.hid (HO.out.kept HV.out hle2)
  have hM3 : M ≤ w2.heap.size := Nat.le_trans hMr hle2.1
  clear hs2 hle2 HLR HO HS
  by_cases h0 : 0 < m
  · have q1 : decide ((0 : Int) < (m : Int)) = true := decide_eq_true (by omega)
    have HUN := Lib.hid (suntil_any HR.out HL.out hn xs w2 HS2.out (by rw [HM.out]; exact h0))
    obtain ⟨x, hx⟩ : ∃ x, xs.getD 0 0 = x := ⟨_, rfl⟩
    obtain ⟨u, hu⟩ : ∃ u, tilP ps x = u := ⟨_, rfl⟩
    rw [hx, hu] at HUN
    have HX := Lib.hid hx
    have HU := Lib.hid hu
    clear hx hu
    go_wp2_with fail
    refine HUN.out.mono ?_
    rintro _ w3 ⟨rfl, hs3, hle3⟩
    have HS3 := Lib.hid hs3
    have HO3 := Lib.hid (HO2.out.kept HV.out hle3)
    have hM4 : M ≤ w3.heap.size := Nat.le_trans hM3 hle3.1
    clear hs3 hle3 HUN HS2 HO2
    have HDR := Lib.hid (drain_head (ps := ps) HM.out h0)
    rw [HX.out] at HDR
    by_cases hun : u ≤ now
    · have q2 : decide (u ≤ now) = true := decide_eq_true hun
      have HTK := Lib.hid (take_any HOPS.out xs w3 HS3.out (by rw [HM.out]; exact h0))
      rw [HX.out] at HTK
      have HOV2 := Lib.hid (show ∀ a ∈ out ++ [x], tilP ps a ≤ now by
        intro a ha
        rcases List.mem_append.1 ha with ha | ha
        · exact HOV.out a ha
        · simp at ha; rw [ha, HU.out]; exact hun)
      clear hun
      go_wp2_with fail
      refine HTK.out.mono ?_
      rintro _ w4 ⟨rfl, hs4, hle4⟩
      have HS4 := Lib.hid hs4
      have HO4 := Lib.hid (HO3.out.kept HV.out hle4)
      have hM5 : M ≤ w4.heap.size := Nat.le_trans hM4 hle4.1
      obtain ⟨l, hl⟩ : ∃ l, out.length = l := ⟨_, rfl⟩
      rw [hl] at HO4
      have HLL := Lib.hid hl
      have hlN : l + m = N := by rw [← hl, ← HM.out]; exact HLEN.out
      have HVL := Lib.hid (own_vlen' HO4.out)
      have hzb : w0.heap.size ≤ w4.heap.size := by omega
      clear hs4 hle4 hl HTK HS3 HO3
      go_wp2_with (at_builtin; refine wpList_append_at _ rfl (.tmp 19) (.tmp 22) 64 rfl .i64 8 w0.heap.size 3 Tryz.underlying64 info_int _ l _ rfl (HO4.out.alloc _) (some ⟨w4.heap.size, 0, none⟩) 1 1 [x] rfl (by first | exact Rd.one _ | (have h := Rd.one (k := .i64) (w := w4) (t := 3) x; simpa using h)) (by omega) (by omega) (by simp; omega) ?_; intro v' w5 ho5 hg5 hw5)
      have HO5 := Lib.hid ho5
      have HG5 := Lib.hid hg5
      have HRL := Lib.hid HO4.out.rowLt
      have HV5 := Lib.hid (show ∀ g, v'.ownBlock = some g → M ≤ g ∨ g < z by
        intro g hg
        rcases hw5 with e | ⟨g', e, h⟩
        · exact HV.out g (e ▸ hg)
        · rw [e] at hg; injection hg with hg; simp at h; omega)
      clear ho5 hg5 hw5
      go_wp2
      go_roundw
      case rel =>
       obtain ⟨hb, hMM, v, hv, hw⟩ := HS4.out
       refine ⟨popL (dlt ps) 0 xs, out ++ [x], ⟨hb, hMM, v, hv, (hw.alloc _).grown hv hMM (fun g hg => ⟨HRL.out g hg, HV.out g hg⟩) HG5.out⟩, popL_heap (dlt_weak ps) HH.out, by rw [List.length_append, HLL.out]; exact HO5.out, HV5.out, ?_, by rw [popL_length, List.length_append, HLL.out, HM.out]; simp; omega, by have := HG5.out.size; simp at this; omega, HOV2.out⟩
       rw [← HE.out, HM.out, popL_length, HM.out, List.append_assoc, HDR.out]
       rfl
      case measure =>
       rw [HVL.out, own_vlen' HO5.out]
       omega
    · have q2 : decide (u ≤ now) = false := decide_eq_false hun
      have HBY := Lib.hid (show byL ps now (drainL (dlt ps) 0 N x0) = out by
        rw [← HE.out, HM.out, HDR.out]
        exact byL_stop HOV.out fun a r h => by injection h with h; rw [← h, HU.out]; omega)
      clear hun
      go_wp2
      go_ret
      obtain ⟨_, _, v, _, hw⟩ := HS3.out
      exact ⟨_, _, rfl, HDUE.out, by rw [HBY.out]; exact HO3.out, hw.below⟩
  · obtain rfl : m = 0 := by omega
    have HBY := Lib.hid (show byL ps now (drainL (dlt ps) 0 N x0) = out by
      rw [← HE.out, HM.out]
      exact byL_stop HOV.out fun a r h => by cases h)
    go_wp2
    go_ret
    obtain ⟨_, _, v, _, hw⟩ := HS2.out
    exact ⟨_, _, rfl, HDUE.out, by rw [HBY.out]; exact HO2.out, hw.below⟩
end
theorem Dr.tick {F : Nat → Prop} {w : World} {g : Nat} {va vp X Y : Value} {s : St} (h : Dr F w g va vp X Y s) (t : Int) : Dr F (w.setCell ⟨g, 4, none⟩ (.int .i64 t)) g va vp X Y ⟨s.acs, s.pys, t⟩ ∧ On F w (w.setCell ⟨g, 4, none⟩ (.int .i64 t)) := by
 refine ⟨⟨h.blk.set 4 (.int .i64 t), h.oa.setOther (p := ⟨g, 4, none⟩) fun b e => (h.ag b e).1, h.op.setOther (p := ⟨g, 4, none⟩) fun b e => (h.pg b e).1, h.ag, h.pg, h.gF, fun k hk => ?_⟩, (On.refl F w).setCell h.gF _⟩
 have := h.lt k hk
 simpa [World.setCell] using this
/-- What was made since is kept too. -/
theorem Dr.wider {F : Nat → Prop} {w w' : World} {g : Nat} {va vp X Y v : Value} {s : St} (h : Dr F w g va vp X Y s) (hb : Below w.heap.size w w') (hv : ∀ b, v.ownBlock = some b → w.heap.size ≤ b ∧ b < w'.heap.size) : Dr (fun b => F b ∨ v.ownBlock = some b) w' g va vp X Y s := by
 have h2 := h.below hb
 have hg := h.blk.lt
 refine ⟨h2.blk, h2.oa, h2.op, fun b e => ⟨(h.ag b e).1, (h.ag b e).2.1, ?_⟩, fun b e => ⟨(h.pg b e).1, ?_⟩, ?_, ?_⟩
 · rintro (k | k)
   · exact (h.ag b e).2.2 k
   · have := hv b k; have := h.alt b e; omega
 · rintro (k | k)
   · exact (h.pg b e).2 k
   · have := hv b k; have := h.plt b e; omega
 · rintro (k | k)
   · exact h.gF k
   · have := hv g k; omega
 · rintro b (k | k)
   · exact h2.lt b k
   · exact (hv b k).2
theorem st_ownG {α : Type} {S : Shape α} {W : World} {base g : Nat} {v : Value} {zs : List α} (h : OwnS S W base v zs) (hg : g < base) (a b x y z : Value) : OwnS S (((((W.setCell ⟨g, 0, none⟩ a).setCell ⟨g, 1, none⟩ b).setCell ⟨g, 2, none⟩ x).setCell ⟨g, 3, none⟩ y).setCell ⟨g, 4, none⟩ z) base v zs := by
 have n2 : ∀ k, v.ownBlock = some k → k ≠ g := fun k e => by have := h.rowLt k e; omega
 exact ((((h.setOther (p := ⟨g, 0, none⟩) n2).setOther (p := ⟨g, 1, none⟩) n2).setOther (p := ⟨g, 2, none⟩) n2).setOther (p := ⟨g, 3, none⟩) n2).setOther (p := ⟨g, 4, none⟩) n2
theorem Own.kept2 {e : TypeId} {k : IntKind} {w w' : World} {base n : Nat} {v : Value} {zs : List Int} (h : Own e k w base v n zs) (hs : ∀ g, v.ownBlock = some g → w'.heap[g]? = w.heap[g]?) : Own e k w' base v n zs := by
 refine ⟨h.1, ?_⟩
 rcases h.2 with h | ⟨g, cap, cur, hv, hg, hh, r⟩
 · exact .inl h
 · exact .inr ⟨g, cap, cur, hv, hg, by rw [hs g (by rw [hv]; rfl)]; exact hh, r⟩
theorem nodup_fresh {l : List Int} {j : Nat} {x : Int} (h : l.Nodup) (hx : l[j]? = some x) : x ∉ l.take j := fun hm => by
 obtain ⟨i, hi⟩ := List.getElem?_of_mem hm
 rw [List.getElem?_take] at hi
 split at hi
 · rename_i hij
   have hlt : j < l.length := (List.getElem?_eq_some_iff.1 hx).1
   have e1 : l[i]'(by omega) = x := by have := hi; rw [List.getElem?_eq_getElem (by omega)] at this; exact Option.some.inj this
   have e2 : l[j] = x := by have := hx; rw [List.getElem?_eq_getElem hlt] at this; exact Option.some.inj this
   exact (List.pairwise_iff_getElem.1 h) i j (by omega) hlt hij (e1.trans e2.symm)
 · cases hi
end Go.Proofs.YteifgmdaggiaaaaGreatDoor
