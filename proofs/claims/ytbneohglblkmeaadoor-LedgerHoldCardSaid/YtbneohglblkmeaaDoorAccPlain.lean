/-
  Which accounts are right, what they come to, what a book's are: plain words, no program.
-/
import Derived.Test.YtbneohglblkmeaaDoorAcc
namespace Go.Proofs.YtbneohglblkmeaaDoor
open Go Go.RowKit
set_option linter.unusedVariables false

/-- Whether an account may stand at a place. -/
def okAt (k : Nat) (a : Ac) : Bool :=
  decide (0 ≤ a.cur ∧ a.cur < 3) && decide (-1125899906842624 ≤ a.bal ∧ a.bal ≤ 1125899906842624) &&
    (if k < 9 then decide (a.held = 0 ∧ a.cur = (k : Int) / 3) else decide (0 ≤ a.held ∧ a.held ≤ a.bal))
/-- Whether accounts may stand behind each other from a place on. -/
def allOk : Nat → List Ac → Bool
  | _, [] => true
  | k, a :: r => okAt k a && allOk (k + 1) r
/-- Which accounts are right. -/
def rightB (zs : List Ac) : Bool := decide (9 ≤ zs.length ∧ zs.length ≤ 64) && allOk 0 zs

theorem allOk_iff : ∀ (zs : List Ac) (k : Nat), allOk k zs = true ↔ ∀ (j : Nat) (a : Ac), zs[j]? = some a → okAt (k + j) a = true
  | [], k => by simp [allOk]
  | b :: r, k => by
    simp only [allOk, Bool.and_eq_true, allOk_iff r (k + 1)]
    constructor
    · rintro ⟨h0, h1⟩ j a hj
      cases j with
      | zero => simp at hj; subst hj; exact h0
      | succ j => have := h1 j a (by simpa using hj); rw [show k + (j + 1) = k + 1 + j by omega]; exact this
    · intro h
      exact ⟨h 0 b rfl, fun j a hj => by rw [show k + 1 + j = k + (j + 1) by omega]; exact h (j + 1) a (by simpa using hj)⟩
theorem allOk_drop (zs : List Ac) (k j : Nat) (a : Ac) (h : zs[j]? = some a) : allOk k (zs.drop j) = (okAt k a && allOk (k + 1) (zs.drop (j + 1))) := by
  obtain ⟨hj, rfl⟩ := List.getElem?_eq_some_iff.1 h
  rw [List.drop_eq_getElem_cons hj]
  rfl

/-- What the accounts of a currency have together. -/
def psum (c : Int) : List Ac → Int
  | [] => 0
  | a :: r => (if a.cur = c then a.bal else 0) + psum c r
theorem psum_append (c : Int) : ∀ x y : List Ac, psum c (x ++ y) = psum c x + psum c y
  | [], y => by simp [psum]
  | a :: r, y => by simp only [List.cons_append, psum, psum_append c r y]; omega
theorem psum_set (c : Int) : ∀ {x : List Ac} {j : Nat} {a : Ac} (b : Ac), x[j]? = some a → psum c (x.set j b) = psum c x - (if a.cur = c then a.bal else 0) + (if b.cur = c then b.bal else 0)
  | [], j, a, b, h => by simp at h
  | x :: r, 0, a, b, h => by simp at h; subst h; simp only [List.set_cons_zero, psum]; omega
  | x :: r, j + 1, a, b, h => by
    have := psum_set c b (show r[j]? = some a by simpa using h)
    simp only [List.set_cons_succ, psum, this]; omega

/-- What a book's accounts are, by how many clients there are. -/
structure BookOk (k : Nat) (zs : List Ac) : Prop where
  len : zs.length = 9 + k
  house : ∀ j, j < 9 → ∃ b : Int, zs[j]? = some ⟨(j : Int) / 3, b, 0⟩ ∧ -(k * 99999 : Int) ≤ b ∧ b ≤ 0
  client : ∀ (j : Nat) (a : Ac), 9 ≤ j → zs[j]? = some a → 0 ≤ a.cur ∧ a.cur < 3 ∧ 0 ≤ a.held ∧ a.held ≤ a.bal ∧ a.bal ≤ 99999
  sums : ∀ c, psum c zs = 0

/-- The house's accounts, with nothing. -/
def house : List Ac := [⟨0, 0, 0⟩, ⟨0, 0, 0⟩, ⟨0, 0, 0⟩, ⟨1, 0, 0⟩, ⟨1, 0, 0⟩, ⟨1, 0, 0⟩, ⟨2, 0, 0⟩, ⟨2, 0, 0⟩, ⟨2, 0, 0⟩]
theorem house_at (j : Nat) (hj : j < 9) : house[j]? = some ⟨(j : Int) / 3, 0, 0⟩ := by
  match j, hj with
  | 0, _ | 1, _ | 2, _ | 3, _ | 4, _ | 5, _ | 6, _ | 7, _ | 8, _ => rfl
/-- The house's accounts of which the first have their currency. -/
def houseTo (k : Nat) : List Ac := house.take k ++ List.replicate (9 - k) ⟨0, 0, 0⟩
theorem houseTo_len (k : Nat) (hk : k ≤ 9) : (houseTo k).length = 9 := by simp [houseTo, house]; omega
theorem houseTo_at (k : Nat) (hk : k < 9) : (houseTo k)[k]? = some ⟨0, 0, 0⟩ := by
  match k, hk with
  | 0, _ | 1, _ | 2, _ | 3, _ | 4, _ | 5, _ | 6, _ | 7, _ | 8, _ => rfl
theorem houseTo_next (k : Nat) (hk : k < 9) : (houseTo k).set k ⟨(k : Int) / 3, 0, 0⟩ = houseTo (k + 1) := by
  match k, hk with
  | 0, _ | 1, _ | 2, _ | 3, _ | 4, _ | 5, _ | 6, _ | 7, _ | 8, _ => rfl
theorem houseTo_zero : houseTo 0 = List.replicate 9 ⟨0, 0, 0⟩ := rfl
theorem houseTo_nine : houseTo 9 = house := rfl

theorem book_zero : BookOk 0 house := by
  refine ⟨rfl, fun j hj => ⟨0, house_at j hj, by omega, by omega⟩, fun j a hj h => ?_, fun c => ?_⟩
  · have := (List.getElem?_eq_some_iff.1 h).1
    simp [house] at this
    omega
  · simp only [house, psum]
    simp
theorem book_next {k : Nat} {zs : List Ac} (h : BookOk k zs) {c b l : Int} {m : Nat} {x : Int} (hm : (m : Int) = 3 * c) (c0 : 0 ≤ c) (c1 : c < 3) (l0 : 0 ≤ l) (l1 : l ≤ b) (b1 : b ≤ 99999) (hx : zs[m]? = some ⟨c, x, 0⟩) :
    BookOk (k + 1) (zs.set m ⟨c, x - b, 0⟩ ++ [⟨c, b, l⟩]) := by
  have hl := h.len
  have hm9 : m < 9 := by omega
  refine ⟨by simp [hl]; omega, fun j hj => ?_, fun j a hj ha => ?_, fun d => ?_⟩
  · obtain ⟨y, h1, h2, h3⟩ := h.house j hj
    by_cases hjm : j = m
    · subst hjm
      rw [hx] at h1
      injection h1 with h1
      injection h1 with e1 e2
      subst e2
      refine ⟨x - b, ?_, by omega, by omega⟩
      rw [List.getElem?_append_left (by simp [hl]; omega), List.getElem?_set_self (by omega), e1]
    · refine ⟨y, ?_, by omega, h3⟩
      rw [List.getElem?_append_left (by simp [hl]; omega), List.getElem?_set_ne (by omega)]
      exact h1
  · by_cases hjl : j < 9 + k
    · rw [List.getElem?_append_left (by simp [hl]; omega), List.getElem?_set_ne (by omega)] at ha
      exact h.client j a hj ha
    · rw [List.getElem?_append_right (by simp [hl]; omega)] at ha
      have hjz : j - (zs.set m ⟨c, x - b, 0⟩).length = 0 := by
        have := (List.getElem?_eq_some_iff.1 ha).1
        simp at this
        simp
        omega
      rw [hjz] at ha
      simp at ha
      subst ha
      exact ⟨c0, c1, l0, l1, b1⟩
  · rw [psum_append, psum_set d _ hx, h.sums d]
    simp only [psum]
    split <;> omega
theorem BookOk.ok {k : Nat} {zs : List Ac} (h : BookOk k zs) (hk : k ≤ 8) : allOk 0 zs = true := by
  rw [allOk_iff]
  intro j a hj
  rw [Nat.zero_add]
  by_cases hj9 : j < 9
  · obtain ⟨b, h1, h2, h3⟩ := h.house j hj9
    rw [hj] at h1
    injection h1 with h1
    subst h1
    simp only [okAt, hj9, if_true, Bool.and_eq_true, decide_eq_true_eq]
    exact ⟨⟨⟨by omega, by omega⟩, by omega, by omega⟩, trivial, trivial⟩
  · obtain ⟨h1, h2, h3, h4, h5⟩ := h.client j a (by omega) hj
    simp only [okAt, hj9, if_false, Bool.and_eq_true, decide_eq_true_eq]
    omega
theorem BookOk.right {k : Nat} {zs : List Ac} (h : BookOk k zs) (hk : k ≤ 8) : rightB zs = true := by
  simp only [rightB, h.ok hk, Bool.and_true, decide_eq_true_eq, h.len]
  omega
theorem BookOk.house_ {zs : List Ac} {k : Nat} (h : BookOk k zs) (j : Nat) (hj : j < 9) : ∃ b : Int, zs[j]? = some ⟨(j : Int) / 3, b, 0⟩ := by
  obtain ⟨b, h1, _⟩ := h.house j hj
  exact ⟨b, h1⟩
theorem house_right : rightB house = true := book_zero.right (by omega)
end Go.Proofs.YtbneohglblkmeaaDoor
