/-
  Which payments are due, in order: the plain words.
-/
import Derived.Test.YtjnmppdohglcaaaGreatDoorGrB
import Derived.Test.YtjnmppdohglcaaaGreatDoorHeapPlain
namespace Go.Proofs.YtjnmppdohglcaaaGreatDoor
open Go Go.RowKit
set_option linter.unusedVariables false

/-- The time of the payment at a place. -/
def tilP (ps : List Py) (a : Int) : Int := (ps.getD a.toNat Py.zero).til
/-- Whose time is over first; of two at once the one that stands first. -/
def dlt (ps : List Py) (a b : Int) : Bool := decide (tilP ps a < tilP ps b ∨ (tilP ps a = tilP ps b ∧ a < b))
theorem dlt_false {ps : List Py} {a b : Int} : dlt ps a b = false ↔ (tilP ps b < tilP ps a ∨ (tilP ps b = tilP ps a ∧ b ≤ a)) := by
  unfold dlt
  rw [decide_eq_false_iff_not]
  omega
theorem dlt_true {ps : List Py} {a b : Int} : dlt ps a b = true ↔ (tilP ps a < tilP ps b ∨ (tilP ps a = tilP ps b ∧ a < b)) := by
  unfold dlt
  rw [decide_eq_true_iff]
theorem dlt_weak (ps : List Py) : Weak (dlt ps) where
  asymm := fun a b h => by rw [dlt_true] at h; rw [dlt_false]; omega
  trans := fun a b c h1 h2 => by rw [dlt_false] at h1 h2 ⊢; omega
theorem dlt_same {ps : List Py} (a b : Int) (h1 : dlt ps a b = false) (h2 : dlt ps b a = false) : a = b := by
  rw [dlt_false] at h1 h2
  omega

/-- The places of the open ones. -/
def isOpen (ps : List Py) (a : Int) : Prop := ∃ k : Nat, k < ps.length ∧ a = (k : Int) ∧ (ps.getD k Py.zero).stg = 0
/-- A list of places is what is asked for: each open one once, and no other, in order. -/
structure DueIs (ps : List Py) (out : List Int) : Prop where
  once : out.Nodup
  order : InOrder (dlt ps) out
  mem : ∀ a, a ∈ out ↔ isOpen ps a
theorem DueIs.same {ps : List Py} {a b : List Int} (ha : DueIs ps a) (hb : DueIs ps b) : a = b :=
  inOrder_eq dlt_same a b ha.order hb.order ((List.perm_ext_iff_of_nodup ha.once hb.once).2 fun x => (ha.mem x).trans (hb.mem x).symm)
/-- Numbers below n, each once, are no more than n. -/
theorem nodup_below : ∀ (n : Nat) (l : List Int), l.Nodup → (∀ x ∈ l, ∃ k : Nat, k < n ∧ x = (k : Int)) → l.length ≤ n := by
  intro n
  induction n with
  | zero =>
    intro l _ h
    cases l with
    | nil => simp
    | cons a l => obtain ⟨k, hk, _⟩ := h a (List.mem_cons_self ..); omega
  | succ n ih =>
    intro l hn h
    by_cases hin : (n : Int) ∈ l
    · have h1 := ih (l.erase (n : Int)) (hn.erase _) (fun x hx => by
        obtain ⟨k, hk, e⟩ := h x (List.mem_of_mem_erase hx)
        refine ⟨k, ?_, e⟩
        have hne : x ≠ (n : Int) := fun e' => by
          subst e'
          exact (List.Nodup.not_mem_erase hn) hx
        omega)
      rw [List.length_erase_of_mem hin] at h1
      omega
    · have h1 := ih l hn (fun x hx => by
        obtain ⟨k, hk, e⟩ := h x hx
        refine ⟨k, ?_, e⟩
        have hne : x ≠ (n : Int) := fun e' => hin (e' ▸ hx)
        omega)
      omega
theorem DueIs.len {ps : List Py} {a : List Int} (h : DueIs ps a) : a.length ≤ ps.length :=
  nodup_below _ _ h.once fun x hx => by
    obtain ⟨k, hk, e, _⟩ := (h.mem x).1 hx
    exact ⟨k, hk, e⟩

/-- What has been taken so far. -/
structure DueTo (ps : List Py) (tk : List Bool) (out : List Int) : Prop where
  len : tk.length = ps.length
  once : out.Nodup
  order : InOrder (dlt ps) out
  mem : ∀ a ∈ out, isOpen ps a
  taken : ∀ k, k < ps.length → (tk.getD k false = true ↔ (k : Int) ∈ out)
  rest : ∀ a ∈ out, ∀ k : Nat, k < ps.length → (ps.getD k Py.zero).stg = 0 → tk.getD k false = false → dlt ps (k : Int) a = false
theorem DueTo.none (ps : List Py) : DueTo ps (List.replicate ps.length false) [] where
  len := by simp
  once := List.nodup_nil
  order := List.Pairwise.nil
  mem := by simp
  taken := fun k hk => by simp [List.getD, hk]
  rest := by simp
/-- The best of the first k that are open and not taken. -/
def BestTo (ps : List Py) (tk : List Bool) (k : Nat) (b : Int) : Prop :=
  (b = -1 ∧ ∀ j, j < k → (ps.getD j Py.zero).stg = 0 → tk.getD j false = true) ∨
  ∃ i : Nat, b = (i : Int) ∧ i < k ∧ (ps.getD i Py.zero).stg = 0 ∧ tk.getD i false = false ∧ ∀ j, j < k → (ps.getD j Py.zero).stg = 0 → tk.getD j false = false → dlt ps (j : Int) (i : Int) = false
theorem BestTo.none (ps : List Py) (tk : List Bool) : BestTo ps tk 0 (-1) := .inl ⟨rfl, fun j h => absurd h (by omega)⟩
theorem BestTo.shut {ps : List Py} {tk : List Bool} {k : Nat} {b : Int} (h : BestTo ps tk k b) (hs : ¬ (ps.getD k Py.zero).stg = 0) : BestTo ps tk (k + 1) b := by
  rcases h with ⟨hb, h⟩ | ⟨i, hb, hi, ho, ht, h⟩
  · refine .inl ⟨hb, fun j hj hs' => ?_⟩
    by_cases hjk : j = k
    · exact absurd (hjk ▸ hs') hs
    · exact h j (by omega) hs'
  · refine .inr ⟨i, hb, by omega, ho, ht, fun j hj hs' ht' => ?_⟩
    by_cases hjk : j = k
    · exact absurd (hjk ▸ hs') hs
    · exact h j (by omega) hs' ht'
theorem BestTo.took {ps : List Py} {tk : List Bool} {k : Nat} {b : Int} (h : BestTo ps tk k b) (hs : tk.getD k false = true) : BestTo ps tk (k + 1) b := by
  rcases h with ⟨hb, h⟩ | ⟨i, hb, hi, ho, ht, h⟩
  · refine .inl ⟨hb, fun j hj hs' => ?_⟩
    by_cases hjk : j = k
    · exact hjk ▸ hs
    · exact h j (by omega) hs'
  · refine .inr ⟨i, hb, by omega, ho, ht, fun j hj hs' ht' => ?_⟩
    by_cases hjk : j = k
    · subst hjk; rw [hs] at ht'; cases ht'
    · exact h j (by omega) hs' ht'
theorem tilP_nat (ps : List Py) (k : Nat) : tilP ps (k : Int) = (ps.getD k Py.zero).til := rfl
theorem BestTo.first {ps : List Py} {tk : List Bool} {k : Nat} (h : BestTo ps tk k (-1)) (hs : (ps.getD k Py.zero).stg = 0) (ht : tk.getD k false = false) : BestTo ps tk (k + 1) (k : Int) := by
  rcases h with ⟨_, h⟩ | ⟨i, hb, _⟩
  · refine .inr ⟨k, rfl, by omega, hs, ht, fun j hj hs' ht' => ?_⟩
    by_cases hjk : j = k
    · subst hjk; rw [dlt_false]; omega
    · have := h j (by omega) hs'
      rw [ht'] at this
      cases this
  · omega
theorem BestTo.less {ps : List Py} {tk : List Bool} {k i : Nat} (h : BestTo ps tk k (i : Int)) (hs : (ps.getD k Py.zero).stg = 0) (ht : tk.getD k false = false) (hl : (ps.getD k Py.zero).til < (ps.getD i Py.zero).til) : BestTo ps tk (k + 1) (k : Int) := by
  rcases h with ⟨hb, _⟩ | ⟨i', hb, hi, ho, ht0, h⟩
  · omega
  · obtain rfl : i = i' := by omega
    refine .inr ⟨k, rfl, by omega, hs, ht, fun j hj hs' ht' => ?_⟩
    by_cases hjk : j = k
    · subst hjk; rw [dlt_false]; omega
    · have := h j (by omega) hs' ht'
      rw [dlt_false, tilP_nat, tilP_nat] at this
      rw [dlt_false, tilP_nat, tilP_nat]
      omega
theorem BestTo.more {ps : List Py} {tk : List Bool} {k i : Nat} (h : BestTo ps tk k (i : Int)) (hs : (ps.getD k Py.zero).stg = 0) (hl : ¬ (ps.getD k Py.zero).til < (ps.getD i Py.zero).til) : BestTo ps tk (k + 1) (i : Int) := by
  rcases h with ⟨hb, _⟩ | ⟨i', hb, hi, ho, ht0, h⟩
  · omega
  · obtain rfl : i = i' := by omega
    refine .inr ⟨i, rfl, by omega, ho, ht0, fun j hj hs' ht' => ?_⟩
    by_cases hjk : j = k
    · subst hjk
      rw [dlt_false, tilP_nat, tilP_nat]
      omega
    · exact h j (by omega) hs' ht'
theorem BestTo.at_ {ps : List Py} {tk : List Bool} {k i : Nat} (h : BestTo ps tk k (i : Int)) : i < k := by
  rcases h with ⟨hb, _⟩ | ⟨i', hb, hi, _⟩ <;> omega
/-- Nobody is left: that is all. -/
theorem DueTo.done {ps : List Py} {tk : List Bool} {out : List Int} (h : DueTo ps tk out) (hb : BestTo ps tk ps.length (-1)) : DueIs ps out where
  once := h.once
  order := h.order
  mem := fun a => ⟨h.mem a, fun ⟨k, hk, ha, hs⟩ => by
    rcases hb with ⟨_, hb⟩ | ⟨i, hb, _⟩
    · rw [ha]; exact (h.taken k hk).1 (hb k hk hs)
    · omega⟩
/-- The best one is taken. -/
theorem DueTo.step {ps : List Py} {tk : List Bool} {out : List Int} {i : Nat} (h : DueTo ps tk out) (hb : BestTo ps tk ps.length (i : Int)) : DueTo ps (tk.set i true) (out ++ [(i : Int)]) := by
  rcases hb with ⟨hb, _⟩ | ⟨i', hb, hi, ho, ht0, hm⟩
  · omega
  · obtain rfl : i = i' := by omega
    have hno : (i : Int) ∉ out := fun hin => by
      have := (h.taken i hi).2 hin
      rw [ht0] at this
      cases this
    have hset : ∀ k, (tk.set i true).getD k false = if k = i then true else tk.getD k false := fun k => by
      simp only [List.getD_eq_getElem?_getD, List.getElem?_set]
      by_cases hk : i = k
      · subst hk
        rw [if_pos rfl, if_pos (by rw [h.len]; exact hi), if_pos rfl]
        rfl
      · rw [if_neg hk, if_neg (fun e => hk e.symm)]
    refine ⟨by rw [List.length_set]; exact h.len, ?_, ?_, ?_, ?_, ?_⟩
    · exact List.nodup_append.2 ⟨h.once, by simp, by
        intro a ha b hb
        simp at hb
        subst hb
        intro e
        exact hno (e ▸ ha)⟩
    · refine List.pairwise_append.2 ⟨h.order, List.pairwise_singleton _ _, fun a ha b hb => ?_⟩
      simp at hb
      subst hb
      exact h.rest a ha i hi ho ht0
    · intro a ha
      rcases List.mem_append.1 ha with ha | ha
      · exact h.mem a ha
      · simp at ha
        subst ha
        exact ⟨i, hi, rfl, ho⟩
    · intro k hk
      rw [hset]
      by_cases hki : k = i
      · subst hki; simp
      · rw [if_neg hki, h.taken k hk]
        simp
        intro e
        exact absurd (by omega) hki
    · intro a ha k hk hs ht
      rw [hset] at ht
      by_cases hki : k = i
      · rw [if_pos hki] at ht; cases ht
      · rw [if_neg hki] at ht
        rcases List.mem_append.1 ha with ha | ha
        · exact h.rest a ha k hk hs ht
        · simp at ha
          subst ha
          exact hm k hk hs ht
theorem DueTo.short {ps : List Py} {tk : List Bool} {out : List Int} (h : DueTo ps tk out) : out.length ≤ ps.length :=
  nodup_below _ _ h.once fun x hx => by
    obtain ⟨k, hk, e, _⟩ := h.mem x hx
    exact ⟨k, hk, e⟩
/-- The places of the open ones among the first j. -/
def openTo (ps : List Py) (j : Nat) : List Int := ((List.range j).filter fun k => decide ((ps.getD k Py.zero).stg = 0)).map fun k : Nat => (k : Int)
theorem openTo_succ (ps : List Py) (j : Nat) : (openTo ps (j + 1)).length = (openTo ps j).length + (if (ps.getD j Py.zero).stg = 0 then 1 else 0) := by
  unfold openTo
  rw [List.range_succ, List.filter_append, List.map_append, List.length_append]
  by_cases h : (ps.getD j Py.zero).stg = 0
  · rw [if_pos h, List.filter_cons_of_pos (by simpa using h)]; rfl
  · rw [if_neg h, List.filter_cons_of_neg (by simpa using h)]; rfl
theorem openTo_le (ps : List Py) (j : Nat) : (openTo ps j).length ≤ j := by
  unfold openTo
  rw [List.length_map]
  exact Nat.le_trans (List.length_filter_le _ _) (by simp)
theorem openTo_next (ps : List Py) (j : Nat) : openTo ps (j + 1) = openTo ps j ++ (if (ps.getD j Py.zero).stg = 0 then [(j : Int)] else []) := by
  unfold openTo
  rw [List.range_succ, List.filter_append, List.map_append]
  by_cases h : (ps.getD j Py.zero).stg = 0
  · rw [if_pos h, List.filter_cons_of_pos (by simpa using h)]; rfl
  · rw [if_neg h, List.filter_cons_of_neg (by simpa using h)]; rfl
theorem openTo_mem {ps : List Py} {a : Int} : a ∈ openTo ps ps.length ↔ isOpen ps a := by
  unfold openTo isOpen
  rw [List.mem_map]
  constructor
  · rintro ⟨k, hk, rfl⟩
    rw [List.mem_filter, List.mem_range] at hk
    exact ⟨k, hk.1, rfl, by simpa using hk.2⟩
  · rintro ⟨k, hk, rfl, hs⟩
    exact ⟨k, List.mem_filter.2 ⟨List.mem_range.2 hk, by simpa using hs⟩, rfl⟩
theorem openTo_once (ps : List Py) (j : Nat) : (openTo ps j).Nodup := by
  unfold openTo
  exact List.pairwise_map.2 ((List.nodup_range.filter _).imp fun {a b} h e => h (by omega))
theorem DueIs.of_perm {ps : List Py} {out : List Int} (h : out.Perm (openTo ps ps.length)) (ho : InOrder (dlt ps) out) : DueIs ps out where
  once := h.nodup_iff.2 (openTo_once _ _)
  order := ho
  mem := fun a => h.mem_iff.trans openTo_mem
end Go.Proofs.YtjnmppdohglcaaaGreatDoor
